import PyProof.Rows.All
import Wide.All
import OpenK.AllK
import Wide.FinOn
import HandS.ForMost
import HandS.ExcInit
import HandS.Nested
import HandS.Exc
import HandS.IsInst
import HandS.Wide
import HandS.Replace
import HandS.SortRule
import HandS.TupLe
import HandS.ExcOwn
import HandS.TryOnly
import HandS.ExcIs
import HandS.HotCalls
import HandS.Gcd
import HandS.FStr
import HandS.ExcField
import HandS.ExcValue
import KE.KExcIs
import HandS.Style
import HandS.TryMany
import HandS.AnyAll
import HandS.GenList
import HandS.Conv
import KE.DataEq
import PyProof.StrOps2
import HandS.TupAny
import KE.KRevSl
import KE.GoesEnumKw
import KE.SortKeyHeap
import HandS.DictComp
import HandS.Defaults
import PySem.Challenge.RW_hallofwords_k01_letters_and_words
set_option Elab.async false
set_option linter.all false
set_option maxRecDepth 100000
set_option maxHeartbeats 4000000
set_option autoImplicit false
/-! DL: a layer of plain data over the hand layer: what stands in the slots is data (frozen), a list of one's own, or the pool. -/
namespace DL
open PySem PySem.Spec L2

/-! ### data in a frozen heap -/
/-- an error's own fields: numbers and texts -/
inductive FldF : List (Str × V) → List PyData → Prop
  | nil : FldF [] []
  | int {f : Str} {i : Int} {fs : List (Str × V)} {xs : List PyData} : FldF fs xs → FldF ((f, .int i) :: fs) (.tuple [.str f, .int i] :: xs)
  | str {f x : Str} {fs : List (Str × V)} {xs : List PyData} : FldF fs xs → FldF ((f, .str x) :: fs) (.tuple [.str f, .str x] :: xs)
/-- an error that is held as a value: its fields as they stand -/
def XoAt (F : Hp) (d : Option Addr) (fs : List (Str × V)) : Prop := (d = none ∧ fs = []) ∨ ∃ dd, d = some dd ∧ F dd = some (exd dd fs)
theorem XoAt.up {F F' : Hp} {d : Option Addr} {fs : List (Str × V)} (e : Same F F') (h : XoAt F d fs) : XoAt F' d fs := by
  rcases h with h | ⟨dd, h1, h2⟩
  · exact .inl h
  · exact .inr ⟨dd, h1, e _ _ h2⟩
/-- values that no heap knows -/
inductive FlF : V → PyData → Prop
  | non : FlF .non .none
  | bl (b : Bool) : FlF (.bl b) (.bool b)
  | int (i : Int) : FlF (.int i) (.int i)
  | str (x : Str) : FlF (.str x) (.str x)
inductive KeyF : Key → PyData → Prop
  | int (i : Int) : KeyF (.inl i) (.int i)
  | str (x : Str) : KeyF (.inr x) (.str x)
/-- a dict's keys and values -/
inductive KvF : List (Key × V) → List PyData → List PyData → Prop
  | nil : KvF [] [] []
  | cons {k : Key} {v : V} {kd x : PyData} {kvs : List (Key × V)} {ks xs : List PyData} : KeyF k kd → FlF v x → KvF kvs ks xs → KvF ((k, v) :: kvs) (kd :: ks) (x :: xs)
mutual
inductive Dq (K : PySem.W.Frag) (F : Hp) : V → PyData → Prop
  | non : Dq K F .non .none
  | bl (b : Bool) : Dq K F (.bl b) (.bool b)
  | int (i : Int) : Dq K F (.int i) (.int i)
  | str (x : Str) : Dq K F (.str x) (.str x)
  | lst {a : Addr} {xs : List V} {ds : List PyData} : F a = some (.lst xs) → DqA K F xs ds → Dq K F (.ref a) (.list ds)
  | tup {a : Addr} {xs : List V} {ds : List PyData} : SqT K F a xs → DqA K F xs ds → Dq K F (.ref a) (.tuple ds)
  | rng {a : Addr} {lo hi : Int} : F a = some (.rng lo hi) → Dq K F (.ref a) (.dict [(.int lo, .int hi)])
  | er (a : Addr) : Dq K F (.ref a) (.dict [(.none, .int (a : Nat))])
  | xo {a C : Addr} {d : Option Addr} {fs : List (Str × V)} {xs : List PyData} {n : Str} : PySem.W.nsIn K mainGlobals n = some (some (.ref C)) → F a = some (exo a C d) → XoAt F d fs → FldF fs xs → Dq K F (.ref a) (.dict [(.str n, .list xs)])
  | ef {a dd : Addr} {fs : List (Str × V)} {xs : List PyData} : F dd = some (.xd fs) → FldF fs xs → Dq K F (.ref a) (.dict [(.int (a : Nat), .int (dd : Nat)), (.none, .list xs)])
  | dk {a : Addr} {kvs : List (Key × V)} {ks xs : List PyData} : F a = some (.dK kvs) → KvF kvs ks xs → Dq K F (.ref a) (.dict [(.bool true, .list ks), (.none, .list xs)])
inductive DqA (K : PySem.W.Frag) (F : Hp) : List V → List PyData → Prop
  | nil : DqA K F [] []
  | cons {v : V} {vs : List V} {d : PyData} {ds : List PyData} : Dq K F v d → DqA K F vs ds → DqA K F (v :: vs) (d :: ds)
end
section
variable {K : PySem.W.Frag} {F F' H H' G : Hp}
theorem same_sqt {a : Addr} {xs : List V} (e : Same F F') (h : SqT K F a xs) : SqT K F' a xs := by
  rcases h with (h | ⟨o, h⟩) | h
  · exact .inl (.inl (e _ _ h))
  · exact .inl (.inr ⟨o, e _ _ h⟩)
  · exact .inr h
mutual
theorem Dq.up (e : Same F F') : ∀ (d : PyData) (v : V), Dq K F v d → Dq K F' v d
  | .none, _, h => by cases h; exact .non
  | .bool b, _, h => by cases h; exact .bl b
  | .int i, _, h => by cases h; exact .int i
  | .str x, _, h => by cases h; exact .str x
  | .list ds, _, h => by
    cases h with
    | lst h1 h2 => exact .lst (e _ _ h1) (DqA.up e ds _ h2)
  | .tuple ds, _, h => by
    cases h with
    | tup h1 h2 => exact .tup (same_sqt e h1) (DqA.up e ds _ h2)
  | .dict _, _, h => by
    cases h with
    | rng h1 => exact .rng (e _ _ h1)
    | er a => exact .er a
    | xo h1 h2 h3 h4 => exact .xo h1 (e _ _ h2) (h3.up e) h4
    | ef h1 h2 => exact .ef (e _ _ h1) h2
    | dk h1 h2 => exact .dk (e _ _ h1) h2
theorem DqA.up (e : Same F F') : ∀ (ds : List PyData) (vs : List V), DqA K F vs ds → DqA K F' vs ds
  | [], _, h => by cases h; exact .nil
  | d :: ds, _, h => by
    cases h with
    | cons h1 h2 => exact .cons (Dq.up e d _ h1) (DqA.up e ds _ h2)
end
theorem Dq.mono {v : V} {d : PyData} (h : Dq K F v d) (e : Same F F') : Dq K F' v d := Dq.up e d v h
theorem DqA.mono {vs : List V} {ds : List PyData} (h : DqA K F vs ds) (e : Same F F') : DqA K F' vs ds := DqA.up e ds vs h
mutual
theorem Dq.dpUp : ∀ (d : PyData) (v : V), Dq K F v d → d.hasDict = false → Dp K F v d
  | .none, _, h, _ => by cases h; exact .non
  | .bool b, _, h, _ => by cases h; exact .bl b
  | .int i, _, h, _ => by cases h; exact .int i
  | .str x, _, h, _ => by cases h; exact .str x
  | .list ds, _, h, n => by
    cases h with
    | lst h1 h2 => exact .lst (SqL.of h1) (DqA.dpUp ds _ h2 (by simpa [PyData.hasDict] using n))
  | .tuple ds, _, h, n => by
    cases h with
    | tup h1 h2 => exact .tup h1 (DqA.dpUp ds _ h2 (by simpa [PyData.hasDict] using n))
  | .dict _, _, h, n => by simp [PyData.hasDict] at n
theorem DqA.dpUp : ∀ (ds : List PyData) (vs : List V), DqA K F vs ds → PyData.hasDictAll ds = false → DpAll K F vs ds
  | [], _, h, _ => by cases h; exact .nil
  | d :: ds, _, h, n => by
    cases h with
    | cons h1 h2 =>
      simp only [PyData.hasDictAll, Bool.or_eq_false_iff] at n
      exact .cons (Dq.dpUp d _ h1 n.1) (DqA.dpUp ds _ h2 n.2)
end
theorem Dq.dp {v : V} {d : PyData} (h : Dq K F v d) (n : d.hasDict = false) : Dp K F v d := Dq.dpUp d v h n
theorem DqA.length : ∀ {vs : List V} {ds : List PyData}, DqA K F vs ds → vs.length = ds.length
  | [], [], _ => rfl
  | _ :: vs, _ :: ds, h => by
    cases h with
    | cons h1 h2 => rw [List.length_cons, List.length_cons, DqA.length h2]
  | [], _ :: _, h => by cases h
  | _ :: _, [], h => by cases h
theorem DqA.get : ∀ {vs : List V} {ds : List PyData} {i : Nat} {d : PyData}, DqA K F vs ds → ds[i]? = some d → ∃ v, vs[i]? = some v ∧ Dq K F v d
  | _, [], i, d, _, h => by simp at h
  | _, d0 :: ds, 0, d, h, e => by
    cases h with
    | cons h1 h2 =>
      simp at e
      subst e
      exact ⟨_, rfl, h1⟩
  | _, d0 :: ds, i + 1, d, h, e => by
    cases h with
    | cons h1 h2 =>
      obtain ⟨v, a, b⟩ := DqA.get (i := i) h2 (by simpa using e)
      exact ⟨v, by simpa using a, b⟩
theorem DqA.getv : ∀ {vs : List V} {ds : List PyData} {i : Nat} {v : V}, DqA K F vs ds → vs[i]? = some v → ∃ d, ds[i]? = some d ∧ Dq K F v d := fun {vs ds i v} h e => by
  have hl := h.length
  have hi : i < ds.length := by rw [← hl]; exact (List.getElem?_eq_some_iff.mp e).1
  obtain ⟨u, a, b⟩ := h.get (List.getElem?_eq_getElem hi)
  rw [e] at a
  cases a
  exact ⟨_, List.getElem?_eq_getElem hi, b⟩
theorem DqA.append : ∀ {vs ws : List V} {ds es : List PyData}, DqA K F vs ds → DqA K F ws es → DqA K F (vs ++ ws) (ds ++ es)
  | [], _, [], _, _, h => h
  | _ :: _, _, _ :: _, _, h, g => by
    cases h with
    | cons h1 h2 => exact .cons h1 (DqA.append h2 g)
  | [], _, _ :: _, _, h, _ => by cases h
  | _ :: _, _, [], _, h, _ => by cases h
theorem DqA.take : ∀ {vs : List V} {ds : List PyData} (n : Nat), DqA K F vs ds → DqA K F (vs.take n) (ds.take n)
  | _, _, 0, _ => .nil
  | [], [], _ + 1, _ => .nil
  | _ :: _, _ :: _, n + 1, h => by
    cases h with
    | cons h1 h2 => exact .cons h1 (DqA.take n h2)
  | [], _ :: _, _ + 1, h => by cases h
  | _ :: _, [], _ + 1, h => by cases h
theorem DqA.drop : ∀ {vs : List V} {ds : List PyData} (n : Nat), DqA K F vs ds → DqA K F (vs.drop n) (ds.drop n)
  | _, _, 0, h => h
  | [], [], _ + 1, _ => .nil
  | _ :: _, _ :: _, n + 1, h => by
    cases h with
    | cons h1 h2 => exact DqA.drop n h2
  | [], _ :: _, _ + 1, h => by cases h
  | _ :: _, [], _ + 1, h => by cases h
theorem DqA.set : ∀ {vs : List V} {ds : List PyData} {v : V} {d : PyData} (n : Nat), DqA K F vs ds → Dq K F v d → DqA K F (vs.set n v) (ds.set n d)
  | [], [], _, _, _, _, _ => .nil
  | _ :: _, _ :: _, _, _, 0, h, g => by
    cases h with
    | cons h1 h2 => exact .cons g h2
  | _ :: _, _ :: _, _, _, n + 1, h, g => by
    cases h with
    | cons h1 h2 => exact .cons h1 (DqA.set n h2 g)
  | [], _ :: _, _, _, _, h, _ => by cases h
  | _ :: _, [], _, _, _, h, _ => by cases h
theorem DqA.ints {vs : List V} {ns : List Int} (h : DqA K F vs (ns.map PyData.int)) : vs = ns.map V.int := by
  induction ns generalizing vs with
  | nil => cases h; rfl
  | cons n ns ih =>
    cases h with
    | cons h1 h2 =>
      cases h1
      rw [ih h2]
      rfl
theorem DqA.of_ints (ns : List Int) : DqA K F (ns.map V.int) (ns.map PyData.int) := by
  induction ns with
  | nil => exact .nil
  | cons n ns ih => exact .cons (.int n) ih
theorem DqA.bls {vs : List V} {ns : List Bool} (h : DqA K F vs (ns.map PyData.bool)) : vs = ns.map V.bl := by
  induction ns generalizing vs with
  | nil => cases h; rfl
  | cons n ns ih =>
    cases h with
    | cons h1 h2 =>
      cases h1
      rw [ih h2]
      rfl
theorem DqA.strs {vs : List V} {ns : List Str} (h : DqA K F vs (ns.map PyData.str)) : vs = ns.map V.str := by
  induction ns generalizing vs with
  | nil => cases h; rfl
  | cons n ns ih =>
    cases h with
    | cons h1 h2 =>
      cases h1
      rw [ih h2]
      rfl
theorem DqA.of_strs (ns : List Str) : DqA K F (ns.map V.str) (ns.map PyData.str) := by
  induction ns with
  | nil => exact .nil
  | cons n ns ih => exact .cons (.str n) ih

/-! ### what a step may do to the heaps -/
/-- a table of code objects: it may grow -/
def isTb : HO → Bool
  | .tbl _ => true
  | _ => false
/-- all of G stands in H; tables may have grown -/
def SameT (G H : Hp) : Prop := ∀ b o, G b = some o → (isTb o = false → H b = some o) ∧ ∃ o', H b = some o' ∧ isTb o' = isTb o
theorem SameT.refl (H : Hp) : SameT H H := fun b o h => ⟨fun _ => h, o, h, rfl⟩
theorem SameT.of {G H : Hp} (e : Same G H) : SameT G H := fun b o h => ⟨fun _ => e b o h, o, e b o h, rfl⟩
theorem SameT.trans {A B C : Hp} (a : SameT A B) (b : SameT B C) : SameT A C := fun c o h => by
  obtain ⟨h1, o1, h2, h3⟩ := a c o h
  obtain ⟨g1, o2, g2, g3⟩ := b c o1 h2
  refine ⟨fun t => (b c o (h1 t)).1 t, o2, g2, g3.trans h3⟩
theorem SameT.free {G H : Hp} {p : Addr} (e : SameT G H) (h : H p = none) : G p = none := by
  cases g : G p with
  | none => rfl
  | some o =>
    obtain ⟨_, o', h', _⟩ := e p o g
    rw [h] at h'
    cases h'
theorem SameT.go {G H : Hp} {p : Addr} {o : HO} (e : SameT G H) (g : G p = some o) (t : isTb o = false := by rfl) : H p = some o := (e p o g).1 t
theorem SameT.ex {G H : Hp} {p : Addr} {o : HO} (e : SameT G H) (g : G p = some o) : ∃ o', H p = some o' := by
  obtain ⟨_, o', h', _⟩ := e p o g
  exact ⟨o', h'⟩
theorem SameT.upd {G H : Hp} {p : Addr} {o : HO} (e : SameT G H) (n : G p = none) : SameT G (L2.upd H p o) := fun b u g => by
  rw [upd_ne (ne_of_none g n)]
  exact e b u g
/-- the names of the code objects of lambdas and inner defs, by where they stand -/
def lamN : Nat → Nat → Str := fun _ _ => "in_order.<locals>.<lambda>"
def TOk (F : Hp) (ps : Array Value) : Prop := TriplesOk ps.toList ∧ ∀ (pos : Pos) (cv : Value), codeAmong pos ps.toList = some cv → ∃ c, cv = .ref c ∧ F c = some (LamX.CodeO c (lamN pos.line pos.col))
theorem TOk.up {F F' : Hp} {ps : Array Value} (h : TOk F ps) (e : Same F F') : TOk F' ps := ⟨h.1, fun pos cv z => by
  obtain ⟨c, e1, e2⟩ := h.2 pos cv z
  exact ⟨c, e1, e _ _ e2⟩⟩
theorem TOk.nil (F : Hp) : TOk F #[] := ⟨True.intro, fun pos cv hc => by
  have z : codeAmong pos [] = some cv := hc
  simp [codeAmong] at z⟩
/-- what is known of all tables -/
def Tk (F H : Hp) : Prop := (∀ b ps, H b = some (.tbl ps) → TOk F ps) ∧ ∀ b o, F b = some o → isTb o = false
theorem Tk.up {F F' H : Hp} (h : Tk F H) (e : Same F F') (n : ∀ b o, F' b = some o → isTb o = false) : Tk F' H := ⟨fun b ps z => (h.1 b ps z).up e, n⟩
theorem Tk.updF {F H : Hp} {p : Addr} {o : HO} (h : Tk F H) (n : F p = none) (t : isTb o = false := by rfl) : Tk (upd F p o) H := h.up (fun b u e => by
  rw [upd_ne (ne_of_none e n)]
  exact e) fun b u e => by
  by_cases hb : b = p
  · rw [hb, upd_same] at e
    cases e
    exact t
  · rw [upd_ne hb] at e
    exact h.2 b u e
theorem Tk.updH {F H : Hp} {p : Addr} {o : HO} (h : Tk F H) (t : isTb o = false := by rfl) : Tk F (upd H p o) := ⟨fun b ps e => by
  by_cases hb : b = p
  · rw [hb, upd_same] at e
    cases e
    cases t
  · rw [upd_ne hb] at e
    exact h.1 b ps e, h.2⟩
structure Fresh (F H F' H' : Hp) : Prop where
  ff : Same F F'
  fh : Same F' H'
  hh : SameT H H'
  fr : ∀ b o, H b = some o → F b = none → F' b = none
  tk : Tk F H → Tk F' H'
theorem Fresh.refl (e : Same F H) : Fresh F H F H := ⟨Same.refl F, e, SameT.refl H, fun _ _ _ h => h, fun t => t⟩
theorem Fresh.trans {F2 H2 : Hp} (a : Fresh F H F' H') (b : Fresh F' H' F2 H2) : Fresh F H F2 H2 :=
  ⟨a.ff.trans b.ff, b.fh, a.hh.trans b.hh, fun c o h n => by
    obtain ⟨o', h'⟩ := a.hh.ex h
    exact b.fr c o' h' (a.fr c o h n), fun t => b.tk (a.tk t)⟩
theorem Fresh.h (f : Fresh F H F' H') {b : Addr} {o : HO} (e : H b = some o) (t : isTb o = false := by rfl) : H' b = some o := f.hh.go e t
theorem same_new {p : Addr} {o : HO} (h : H p = none) : Same H (upd H p o) := fun b u e => by
  rw [upd_ne (ne_of_none e h)]
  exact e
theorem Fresh.new {p : Addr} {o : HO} (e : Same F H) (h : H p = none) (t : isTb o = false := by rfl) : Fresh F H (upd F p o) (upd H p o) := by
  refine ⟨same_new (e.free h), fun b u q => ?_, .of (same_new h), fun b u q n => ?_, fun z => (z.updF (e.free h) t).updH t⟩
  · by_cases hb : b = p
    · rw [hb, upd_same] at q ⊢
      exact q
    · rw [upd_ne hb] at q ⊢
      exact e b u q
  · rw [upd_ne (ne_of_none q h)]
    exact n
/-- a new object that is not frozen -/
theorem Fresh.newH {p : Addr} {o : HO} (e : Same F H) (h : H p = none) (t : isTb o = false := by rfl) : Fresh F H F (upd H p o) :=
  ⟨Same.refl F, e.trans (same_new h), .of (same_new h), fun _ _ _ n => n, fun z => z.updH t⟩
end

/-! ### what stands in the slots -/
inductive Sl where
  | un
  | d (x : PyData)
  | o (xs : List PyData)
  | pl
  | sc (ns : List Int)
  | tb (p : Addr) (qs : List Addr) (xss : List (List PyData))
@[simp] def tads : Sl → List Addr
  | .tb p qs _ => p :: qs
  | _ => []
/-- a table's rows: lists of one's own -/
inductive RowsOk (K : PySem.W.Frag) (G : Hp) (P : Option Addr) (F H : Hp) : List Addr → List (List PyData) → Prop
  | nil : RowsOk K G P F H [] []
  | cons {q : Addr} {vs : List V} {xs : List PyData} {qs : List Addr} {xss : List (List PyData)} : F q = none → G q = none → P ≠ some q → H q = some (.lst vs) → DqA K F vs xs → RowsOk K G P F H qs xss → RowsOk K G P F H (q :: qs) (xs :: xss)
structure S where
  e : List Sl
  q : List Int
@[simp] def S.put (s : S) (i : Nat) (x : Sl) : S := ⟨s.e.set i x, s.q⟩
def SlOk (K : PySem.W.Frag) (G : Hp) (P : Option Addr) (F H : Hp) (σ : St) (i : Nat) : Sl → Prop
  | .un => True
  | .d x => ∃ v, σ[i]? = some (some v) ∧ Dq K F v x
  | .o xs => ∃ p vs, σ[i]? = some (some (.ref p)) ∧ F p = none ∧ G p = none ∧ P ≠ some p ∧ H p = some (.lst vs) ∧ DqA K F vs xs
  | .pl => ∃ a, P = some a ∧ σ[i]? = some (some (.ref a))
  | .sc ns => ∃ a, σ[i]? = some (some (.ref a)) ∧ SqL K F a (ns.map V.int)
  | .tb p qs xss => σ[i]? = some (some (.ref p)) ∧ F p = none ∧ G p = none ∧ P ≠ some p ∧ H p = some (.lst (qs.map V.ref)) ∧ (p :: qs).Nodup ∧ RowsOk K G P F H qs xss
/-- r is held by slot j -/
def Occ (σ : St) (j : Nat) (y : Sl) (r : Addr) : Prop := r ∈ tads y ∨ ((∃ ys, y = .o ys) ∧ σ[j]? = some (some (.ref r)))
/-- the defs whose code objects' tables may grow (generator expressions) -/
def tabNames : List Str := []
/-- b is the table of such a def's code object -/
def TabK (K : PySem.W.Frag) (b : Addr) : Prop := ∃ (x : Str) (f c : Addr) (o : Obj) (fd : FuncData) (e : Value) (dd : Option Addr) (vs : Array Value) (sl : Array (Option Value)),
  x ∈ tabNames ∧ PySem.W.nsIn K mainGlobals x = some (some (.ref f)) ∧ K.lookup f = some o ∧ o.data = .func fd ∧ fd.code = .ref c ∧ K.lookup c = some ⟨e, dd, .fields vs, sl⟩ ∧ vs[11]? = some (.ref b) ∧ K.lookup b = none
/-- what stands there -/
def tabPh (b : Addr) (h : Heap) : Prop := ∃ ps : Array Value, h.get? b = some { cls := .none, data := .fields ps } ∧ TriplesOk ps.toList
/-- what the base knows of the module of the builtins -/
def BmOk (mg : Str → Option Value) (base : Heap) : Prop := ∃ (bm : Addr) (ob : Obj), mg "__builtins__" = some (.ref bm) ∧ bm ≠ builtinsNs ∧ bm ≠ mainGlobals ∧ base.get? bm = some ob ∧ ob.cls = .type "module" ∧ ob.dict = some builtinsNs ∧ ob.data = .plain
/-- the defs whose lambdas and inner defs are met -/
def lamNames : List Str := ["in_order"]
/-- b is the table of such a def's code object -/
def LamK (K : PySem.W.Frag) (b : Addr) : Prop := ∃ (x : Str) (f c : Addr) (o : Obj) (fd : FuncData) (e : Value) (dd : Option Addr) (vs : Array Value) (sl : Array (Option Value)),
  x ∈ lamNames ∧ PySem.W.nsIn K mainGlobals x = some (some (.ref f)) ∧ K.lookup f = some o ∧ o.data = .func fd ∧ fd.code = .ref c ∧ K.lookup c = some ⟨e, dd, .fields vs, sl⟩ ∧ vs[11]? = some (.ref b) ∧ K.lookup b = none ∧ ¬ TabK K b
def TabsAt (K : PySem.W.Frag) (G : Hp) : Prop := (∀ b, TabK K b → G b = some (.ext (tabPh b))) ∧ ∀ b, LamK K b → ∃ ps, G b = some (.tbl ps)
theorem TabsAt.updN {K : PySem.W.Frag} {G : Hp} {D : Addr} {o : HO} (t : TabsAt K G) (n : G D = none) : TabsAt K (upd G D o) := ⟨fun b hb => by
  have q := t.1 b hb
  rw [upd_ne (ne_of_none q n)]
  exact q, fun b hb => by
  obtain ⟨ps, q⟩ := t.2 b hb
  exact ⟨ps, by rw [upd_ne (ne_of_none q n)]; exact q⟩⟩
theorem SameT.updG {G H : Hp} {D : Addr} {o : HO} (e : SameT G H) (h : H D = some o) : SameT (L2.upd G D o) H := fun b u q => by
  by_cases hb : b = D
  · rw [hb, upd_same] at q
    cases q
    rw [hb]
    exact ⟨fun _ => h, o, h, rfl⟩
  · rw [upd_ne hb] at q
    exact e b u q
theorem TabsAt.tblAt {K : PySem.W.Frag} {G H : Hp} {b : Addr} (t : TabsAt K G) (e : SameT G H) (hb : LamK K b) : ∃ ps, H b = some (.tbl ps) := by
  obtain ⟨ps, q⟩ := t.2 b hb
  obtain ⟨_, o', h', t'⟩ := e b _ q
  cases o' with
  | tbl ps' => exact ⟨ps', h'⟩
  | _ => cases t'
structure Rep (K : PySem.W.Frag) (G : Hp) (P : Option Addr) (F H : Hp) (σ : St) (s : S) : Prop where
  same : Same F H
  keep : SameT G H
  apart : ∀ b o, G b = some o → F b = none
  sl : ∀ (i : Nat) (x : Sl), s.e[i]? = some x → SlOk K G P F H σ i x
  sep : ∀ (i j : Nat) (xs ys : List PyData) (p : Addr), s.e[i]? = some (.o xs) → s.e[j]? = some (.o ys) → σ[i]? = some (some (.ref p)) → σ[j]? = some (some (.ref p)) → i = j
  pool : ∀ a, P = some a → F a = none ∧ G a = none ∧ H a = some (.lst (s.q.map V.int))
  len : σ.length = s.e.length
  tbs : ∀ (i j : Nat) (x y : Sl) (r : Addr), s.e[i]? = some x → s.e[j]? = some y → r ∈ tads x → i ≠ j → ¬ Occ σ j y r
  tab : TabsAt K G ∧ Tk F H
section
variable {K : PySem.W.Frag} {G F F' G' H H' : Hp} {P P' : Option Addr} {σ σ' : St} {s : S}
theorem RowsOk.up (e : Same F F') : ∀ {qs : List Addr} {xss : List (List PyData)}, RowsOk K G P F H qs xss → (∀ r o, r ∈ qs → F r = none → G r = none → P ≠ some r → H r = some (.lst o) → F' r = none ∧ G' r = none ∧ P' ≠ some r ∧ H' r = some (.lst o)) → RowsOk K G' P' F' H' qs xss
  | [], _, h, _ => by cases h; exact .nil
  | q :: qs, _, h, f => by
    cases h with
    | cons h1 h2 h3 h4 h5 h6 =>
      obtain ⟨a, b, c, d⟩ := f q _ List.mem_cons_self h1 h2 h3 h4
      exact .cons a b c d (h5.mono e) (RowsOk.up e h6 fun r o hr => f r o (List.mem_cons_of_mem _ hr))
theorem RowsOk.at' : ∀ {qs : List Addr} {xss : List (List PyData)}, RowsOk K G P F H qs xss → ∀ r, r ∈ qs → F r = none ∧ G r = none ∧ P ≠ some r ∧ ∃ o, H r = some o
  | [], _, _, r, hr => by cases hr
  | q :: qs, _, h, r, hr => by
    cases h with
    | cons h1 h2 h3 h4 h5 h6 =>
      rcases List.mem_cons.mp hr with rfl | hr
      · exact ⟨h1, h2, h3, _, h4⟩
      · exact RowsOk.at' h6 r hr
theorem SlOk.tbUp {i : Nat} {p : Addr} {qs : List Addr} {xss : List (List PyData)} (h : SlOk K G P F H σ i (.tb p qs xss)) (hσ : σ'[i]? = σ[i]?) (e : Same F F')
    (f : ∀ r o, r ∈ p :: qs → F r = none → G r = none → P ≠ some r → H r = some (.lst o) → F' r = none ∧ G' r = none ∧ P' ≠ some r ∧ H' r = some (.lst o)) : SlOk K G' P' F' H' σ' i (.tb p qs xss) := by
  obtain ⟨h1, h2, h3, h4, h5, h6, h7⟩ := h
  obtain ⟨a, b, c, d⟩ := f p _ List.mem_cons_self h2 h3 h4 h5
  exact ⟨by rw [hσ]; exact h1, a, b, c, d, h6, h7.up e fun r o hr => f r o (List.mem_cons_of_mem _ hr)⟩
theorem tad_at {i : Nat} {x : Sl} {r : Addr} (h : SlOk K G P F H σ i x) (hr : r ∈ tads x) : F r = none ∧ G r = none ∧ P ≠ some r ∧ ∃ o, H r = some o := by
  cases x with
  | tb p qs xss =>
    obtain ⟨h1, h2, h3, h4, h5, h6, h7⟩ := h
    rcases List.mem_cons.mp hr with rfl | hr
    · exact ⟨h2, h3, h4, _, h5⟩
    · exact h7.at' r hr
  | _ => cases hr
theorem occ_o {j : Nat} {y : Sl} {r : Addr} {ys : List PyData} (hy : y = .o ys) (h : σ[j]? = some (some (.ref r))) : Occ σ j y r := .inr ⟨⟨ys, hy⟩, h⟩
theorem Rep.fresh (R : Rep K G P F H σ s) (f : Fresh F H F' H') : Rep K G P F' H' σ s where
  same := f.fh
  keep := R.keep.trans f.hh
  apart := fun b o g => by
    obtain ⟨o', h'⟩ := R.keep.ex g
    exact f.fr b o' h' (R.apart b o g)
  sl := fun i x hx => by
    have h := R.sl i x hx
    cases x with
    | un => exact True.intro
    | d x =>
      obtain ⟨v, a, b⟩ := h
      exact ⟨v, a, b.mono f.ff⟩
    | o xs =>
      obtain ⟨p, vs, h1, h2, h3, h4, h5, h6⟩ := h
      exact ⟨p, vs, h1, f.fr p _ h5 h2, h3, h4, f.h h5, h6.mono f.ff⟩
    | pl => exact h
    | sc ns =>
      obtain ⟨a, h1, h2⟩ := h
      exact ⟨a, h1, f.ff.seq h2⟩
    | tb p qs xss => exact h.tbUp rfl f.ff fun r o _ h1 h2 h3 h4 => ⟨f.fr r _ h4 h1, h2, h3, f.h h4⟩
  sep := R.sep
  pool := fun a ha => by
    obtain ⟨h1, h2, h3⟩ := R.pool a ha
    exact ⟨f.fr a _ h3 h1, h2, f.h h3⟩
  len := R.len
  tbs := R.tbs
  tab := ⟨R.tab.1, f.tk R.tab.2⟩
theorem set_get {α : Type} {l : List α} {i j : Nat} {x y : α} (h : (l.set i x)[j]? = some y) : (j = i ∧ y = x) ∨ (j ≠ i ∧ l[j]? = some y) := by
  by_cases e : i = j
  · subst e
    by_cases hl : i < l.length
    · rw [List.getElem?_set_self hl] at h
      cases h
      exact .inl ⟨rfl, rfl⟩
    · rw [List.getElem?_eq_none (by rw [List.length_set]; omega)] at h
      cases h
  · rw [List.getElem?_set_ne e] at h
    exact .inr ⟨fun z => e z.symm, h⟩
/-- a slot's list is frozen -/
theorem Rep.freeze {i : Nat} {xs : List PyData} (R : Rep K G P F H σ s) (h : s.e[i]? = some (.o xs)) : ∃ p vs, σ[i]? = some (some (.ref p)) ∧ H p = some (.lst vs) ∧ F p = none ∧
    Rep K G P (upd F p (.lst vs)) H σ (s.put i (.d (.list xs))) ∧ Dq K (upd F p (.lst vs)) (.ref p) (.list xs) := by
  obtain ⟨p, vs, h1, h2, h3, h4, h5, h6⟩ := R.sl i _ h
  have sF : Same F (upd F p (.lst vs)) := same_new h2
  have dq : Dq K (upd F p (.lst vs)) (.ref p) (.list xs) := .lst upd_same (h6.mono sF)
  refine ⟨p, vs, h1, h5, h2, ⟨fun b o q => ?_, R.keep, fun b o g => ?_, fun j x hx => ?_, fun j k ys zs r hj hk e1 e2 => ?_, fun a ha => ?_, by rw [R.len]; exact (List.length_set).symm, fun j k x y r hj hk hr jk oc => ?_, ⟨R.tab.1, R.tab.2.updF h2⟩⟩, dq⟩
  · by_cases hb : b = p
    · rw [hb, upd_same] at q
      cases q
      rw [hb]
      exact h5
    · rw [upd_ne hb] at q
      exact R.same b o q
  · rw [upd_ne (fun z => by rw [z, h3] at g; cases g)]
    exact R.apart b o g
  · rcases set_get hx with ⟨rfl, rfl⟩ | ⟨ne, hx⟩
    · exact ⟨_, h1, dq⟩
    · have q := R.sl j x hx
      cases x with
      | un => exact True.intro
      | d x =>
        obtain ⟨v, a, b⟩ := q
        exact ⟨v, a, b.mono sF⟩
      | o ys =>
        obtain ⟨p', vs', g1, g2, g3, g4, g5, g6⟩ := q
        have np : p' ≠ p := fun z => ne (R.sep j i ys xs p hx h (by rw [← z]; exact g1) h1)
        exact ⟨p', vs', g1, by rw [upd_ne np]; exact g2, g3, g4, g5, g6.mono sF⟩
      | pl => exact q
      | sc ns =>
        obtain ⟨a, g1, g2⟩ := q
        exact ⟨a, g1, sF.seq g2⟩
      | tb p' qs xss => exact q.tbUp rfl sF fun r o hr g1 g2 g3 g4 => ⟨by rw [upd_ne (fun z => R.tbs j i _ _ r hx h hr ne (occ_o rfl (by rw [z]; exact h1)))]; exact g1, g2, g3, g4⟩
  · rcases set_get hj with ⟨_, z⟩ | ⟨_, hj⟩
    · cases z
    · rcases set_get hk with ⟨_, z⟩ | ⟨_, hk⟩
      · cases z
      · exact R.sep j k ys zs r hj hk e1 e2
  · obtain ⟨g1, g2, g3⟩ := R.pool a ha
    exact ⟨by rw [upd_ne (fun z => h4 (by rw [← z]; exact ha))]; exact g1, g2, g3⟩
  · rcases set_get hj with ⟨_, rfl⟩ | ⟨_, hj⟩
    · cases hr
    · rcases set_get hk with ⟨_, rfl⟩ | ⟨_, hk⟩
      · rcases oc with z | ⟨⟨_, z⟩, _⟩
        · cases z
        · cases z
      · exact R.tbs j k x y r hj hk hr jk oc
/-- what is new at p -/
structure Nu (G : Hp) (P : Option Addr) (F : Hp) (σ : St) (s : S) (p : Addr) : Prop where
  f : F p = none
  g : G p = none
  np : P ≠ some p
  sl : ∀ (i : Nat) (xs : List PyData), s.e[i]? = some (.o xs) → σ[i]? ≠ some (some (.ref p))
  tb : ∀ (i : Nat) (x : Sl), s.e[i]? = some x → p ∉ tads x
theorem Rep.nu {p : Addr} (R : Rep K G P F H σ s) (h : H p = none) : Nu G P F σ s p where
  f := R.same.free h
  g := R.keep.free h
  np := fun z => by
    rw [(R.pool p z).2.2] at h
    cases h
  sl := fun i xs hx e => by
    obtain ⟨q, vs, h1, h2, h3, h4, h5, h6⟩ := R.sl i _ hx
    rw [e] at h1
    cases h1
    rw [h5] at h
    cases h
  tb := fun i x hx z => by
    obtain ⟨_, _, _, o, q⟩ := tad_at (R.sl i x hx) z
    rw [h] at q
    cases q
/-- a new list is frozen -/
theorem Rep.take {p : Addr} {vs : List V} {xs : List PyData} (R : Rep K G P F H σ s) (n : Nu G P F σ s p) (h : H p = some (.lst vs)) (d : DqA K F vs xs) :
    Rep K G P (upd F p (.lst vs)) H σ s ∧ Dq K (upd F p (.lst vs)) (.ref p) (.list xs) := by
  have sF : Same F (upd F p (.lst vs)) := same_new n.f
  refine ⟨⟨fun b o q => ?_, R.keep, fun b o g => ?_, fun j x hx => ?_, R.sep, fun a ha => ?_, R.len, R.tbs, ⟨R.tab.1, R.tab.2.updF n.f⟩⟩, .lst upd_same (d.mono sF)⟩
  · by_cases hb : b = p
    · rw [hb, upd_same] at q
      cases q
      rw [hb]
      exact h
    · rw [upd_ne hb] at q
      exact R.same b o q
  · rw [upd_ne (fun z => by rw [z, n.g] at g; cases g)]
    exact R.apart b o g
  · have q := R.sl j x hx
    cases x with
    | un => exact True.intro
    | d x =>
      obtain ⟨v, a, b⟩ := q
      exact ⟨v, a, b.mono sF⟩
    | o ys =>
      obtain ⟨p', vs', g1, g2, g3, g4, g5, g6⟩ := q
      have np : p' ≠ p := fun z => n.sl j ys hx (by rw [← z]; exact g1)
      exact ⟨p', vs', g1, by rw [upd_ne np]; exact g2, g3, g4, g5, g6.mono sF⟩
    | pl => exact q
    | sc ns =>
      obtain ⟨a, g1, g2⟩ := q
      exact ⟨a, g1, sF.seq g2⟩
    | tb p' qs xss => exact q.tbUp rfl sF fun r o hr g1 g2 g3 g4 => ⟨by rw [upd_ne (fun z => n.tb j _ hx (by rw [← z]; exact hr))]; exact g1, g2, g3, g4⟩
  · obtain ⟨g1, g2, g3⟩ := R.pool a ha
    exact ⟨by rw [upd_ne (fun z => n.np (by rw [← z]; exact ha))]; exact g1, g2, g3⟩
theorem set_self {σ : St} {i : Nat} {v : V} (h : i < σ.length) : (σ.set i (some v))[i]? = some (some v) := List.getElem?_set_self h
/-- data stored -/
theorem put_len {σ : St} {s : S} {i : Nat} {v : Option V} {x : Sl} (h : σ.length = s.e.length) : (σ.set i v).length = (s.put i x).e.length := by
  show (σ.set i v).length = (s.e.set i x).length
  rw [List.length_set, List.length_set, h]
theorem put_lt {s : S} {i : Nat} {x y : Sl} (h : (s.put i x).e[i]? = some y) : i < s.e.length := by
  have h2 := (List.getElem?_eq_some_iff.mp h).1
  have e : (s.put i x).e.length = s.e.length := List.length_set
  omega
theorem Rep.setD {i : Nat} {v : V} {x : PyData} (R : Rep K G P F H σ s) (d : Dq K F v x) : Rep K G P F H (σ.set i (some v)) (s.put i (.d x)) := by
  refine ⟨R.same, R.keep, R.apart, fun j y hy => ?_, fun j k ys zs r hj hk e1 e2 => ?_, R.pool, put_len R.len, fun j k y z r hj hk hr jk oc => ?_, R.tab⟩
  · have hy0 := hy
    rcases set_get hy with ⟨rfl, rfl⟩ | ⟨ne, hy⟩
    · exact ⟨v, set_self (by rw [R.len]; exact put_lt hy0), d⟩
    · have q := R.sl j y hy
      cases y with
      | un => exact True.intro
      | d y =>
        obtain ⟨u, a, b⟩ := q
        exact ⟨u, by rw [List.getElem?_set_ne (Ne.symm ne)]; exact a, b⟩
      | o ys =>
        obtain ⟨p', vs', g1, g2⟩ := q
        exact ⟨p', vs', by rw [List.getElem?_set_ne (Ne.symm ne)]; exact g1, g2⟩
      | pl =>
        obtain ⟨a, h1, h2⟩ := q
        exact ⟨a, h1, by rw [List.getElem?_set_ne (Ne.symm ne)]; exact h2⟩
      | sc ns =>
        obtain ⟨a, h1, h2⟩ := q
        exact ⟨a, by rw [List.getElem?_set_ne (Ne.symm ne)]; exact h1, h2⟩
      | tb p' qs xss => exact q.tbUp (List.getElem?_set_ne (Ne.symm ne)) (Same.refl F) fun r o hr g1 g2 g3 g4 => ⟨g1, g2, g3, g4⟩
  · rcases set_get hj with ⟨_, z⟩ | ⟨nj, hj⟩
    · cases z
    · rcases set_get hk with ⟨_, z⟩ | ⟨nk, hk⟩
      · cases z
      · rw [List.getElem?_set_ne (Ne.symm nj)] at e1
        rw [List.getElem?_set_ne (Ne.symm nk)] at e2
        exact R.sep j k ys zs r hj hk e1 e2
  · rcases set_get hj with ⟨_, rfl⟩ | ⟨_, hj⟩
    · cases hr
    · rcases set_get hk with ⟨_, rfl⟩ | ⟨nk, hk⟩
      · rcases oc with z | ⟨⟨_, z⟩, _⟩
        · cases z
        · cases z
      · refine R.tbs j k y z r hj hk hr jk ?_
        rcases oc with q | ⟨q, q2⟩
        · exact .inl q
        · rw [List.getElem?_set_ne (Ne.symm nk)] at q2
          exact .inr ⟨q, q2⟩
/-- a new list stored, one's own -/
theorem Rep.setO {i : Nat} {p : Addr} {vs : List V} {xs : List PyData} (R : Rep K G P F H σ s) (n : Nu G P F σ s p) (h : H p = some (.lst vs)) (d : DqA K F vs xs) : Rep K G P F H (σ.set i (some (.ref p))) (s.put i (.o xs)) := by
  refine ⟨R.same, R.keep, R.apart, fun j y hy => ?_, fun j k ys zs r hj hk e1 e2 => ?_, R.pool, put_len R.len, fun j k y z r hj hk hr jk oc => ?_, R.tab⟩
  · have hy0 := hy
    rcases set_get hy with ⟨rfl, rfl⟩ | ⟨ne, hy⟩
    · exact ⟨p, vs, set_self (by rw [R.len]; exact put_lt hy0), n.f, n.g, n.np, h, d⟩
    · have q := R.sl j y hy
      cases y with
      | un => exact True.intro
      | d y =>
        obtain ⟨u, a, b⟩ := q
        exact ⟨u, by rw [List.getElem?_set_ne (Ne.symm ne)]; exact a, b⟩
      | o ys =>
        obtain ⟨p', vs', g1, g2⟩ := q
        exact ⟨p', vs', by rw [List.getElem?_set_ne (Ne.symm ne)]; exact g1, g2⟩
      | pl =>
        obtain ⟨a, h1, h2⟩ := q
        exact ⟨a, h1, by rw [List.getElem?_set_ne (Ne.symm ne)]; exact h2⟩
      | sc ns =>
        obtain ⟨a, h1, h2⟩ := q
        exact ⟨a, by rw [List.getElem?_set_ne (Ne.symm ne)]; exact h1, h2⟩
      | tb p' qs xss => exact q.tbUp (List.getElem?_set_ne (Ne.symm ne)) (Same.refl F) fun r o hr g1 g2 g3 g4 => ⟨g1, g2, g3, g4⟩
  · have hj0 := hj
    have hk0 := hk
    rcases set_get hj with ⟨rfl, z⟩ | ⟨nj, hj2⟩
    · rcases set_get hk with ⟨rfl, z2⟩ | ⟨nk, hk2⟩
      · rfl
      · rw [List.getElem?_set_ne (Ne.symm nk)] at e2
        rw [set_self (by rw [R.len]; exact put_lt hj0)] at e1
        cases e1
        exact absurd e2 (n.sl k zs hk2)
    · rw [List.getElem?_set_ne (Ne.symm nj)] at e1
      rcases set_get hk with ⟨rfl, z2⟩ | ⟨nk, hk2⟩
      · rw [set_self (by rw [R.len]; exact put_lt hk0)] at e2
        cases e2
        exact absurd e1 (n.sl j ys hj2)
      · rw [List.getElem?_set_ne (Ne.symm nk)] at e2
        exact R.sep j k ys zs r hj2 hk2 e1 e2
  · rcases set_get hj with ⟨_, rfl⟩ | ⟨_, hj2⟩
    · cases hr
    · have hk0 := hk
      rcases set_get hk with ⟨rfl, rfl⟩ | ⟨nk, hk⟩
      · rcases oc with z | ⟨_, z⟩
        · cases z
        · rw [set_self (by rw [R.len]; exact put_lt hk0)] at z
          cases z
          exact n.tb j y hj2 hr
      · refine R.tbs j k y z r hj2 hk hr jk ?_
        rcases oc with q | ⟨q, q2⟩
        · exact .inl q
        · rw [List.getElem?_set_ne (Ne.symm nk)] at q2
          exact .inr ⟨q, q2⟩
/-- a slot's own list changed -/
theorem Rep.wrO {i : Nat} {p : Addr} {ws : List V} {xs ys : List PyData} (R : Rep K G P F H σ s) (h : s.e[i]? = some (.o xs)) (e : σ[i]? = some (some (.ref p))) (d : DqA K F ws ys) :
    Rep K G P F (upd H p (.lst ws)) σ (s.put i (.o ys)) := by
  obtain ⟨p0, vs0, h1, h2, h3, h4, h5, h6⟩ := R.sl i _ h
  rw [e] at h1
  cases h1
  refine ⟨fun b o q => ?_, R.keep.upd h3, R.apart, fun j y hy => ?_, fun j k us zs r hj hk e1 e2 => ?_, fun a ha => ?_, by rw [R.len]; exact (List.length_set).symm, fun j k y z r hj hk hr jk oc => ?_, ⟨R.tab.1, R.tab.2.updH⟩⟩
  · rw [upd_ne (fun z => by rw [z, h2] at q; cases q)]
    exact R.same b o q
  · rcases set_get hy with ⟨rfl, rfl⟩ | ⟨ne, hy⟩
    · exact ⟨p, ws, e, h2, h3, h4, upd_same, d⟩
    · have q := R.sl j y hy
      cases y with
      | un => exact True.intro
      | d y => exact q
      | o us =>
        obtain ⟨p', vs', g1, g2, g3, g4, g5, g6⟩ := q
        have np : p' ≠ p := fun z => ne (R.sep j i us xs p hy h (by rw [← z]; exact g1) e)
        exact ⟨p', vs', g1, g2, g3, g4, by rw [upd_ne np]; exact g5, g6⟩
      | pl => exact q
      | sc ns => exact q
      | tb p' qs xss => exact SlOk.tbUp (F := F) (F' := F) q rfl (Same.refl F) fun r o hr g1 g2 g3 g4 => ⟨g1, g2, g3, by rw [upd_ne (fun z => R.tbs j i _ _ r hy h hr ne (occ_o rfl (by rw [z]; exact e)))]; exact g4⟩
  · have hj' : ∃ us', s.e[j]? = some (.o us') := by
      rcases set_get hj with ⟨rfl, _⟩ | ⟨_, hj⟩
      · exact ⟨_, h⟩
      · exact ⟨_, hj⟩
    have hk' : ∃ us', s.e[k]? = some (.o us') := by
      rcases set_get hk with ⟨rfl, _⟩ | ⟨_, hk⟩
      · exact ⟨_, h⟩
      · exact ⟨_, hk⟩
    obtain ⟨a, ha⟩ := hj'
    obtain ⟨b, hb⟩ := hk'
    exact R.sep j k a b r ha hb e1 e2
  · obtain ⟨g1, g2, g3⟩ := R.pool a ha
    exact ⟨g1, g2, by rw [upd_ne (fun z => h4 (by rw [← z]; exact ha))]; exact g3⟩
  · rcases set_get hj with ⟨_, rfl⟩ | ⟨_, hj⟩
    · cases hr
    · rcases set_get hk with ⟨e4, e5⟩ | ⟨nk, hk⟩
      · rcases oc with z | ⟨_, z⟩
        · rw [e5] at z
          cases z
        · exact R.tbs j i y _ r hj h hr (by rw [← e4]; exact jk) (occ_o rfl (by rw [← e4]; exact z))
      · exact R.tbs j k y z r hj hk hr jk oc
/-- a table's rows as frozen data -/
theorem Rep.rowsD : ∀ {qs : List Addr} {xss : List (List PyData)} {F1 : Hp}, RowsOk K G P F H qs xss → Same F F1 → qs.Nodup → (∀ q, q ∈ qs → F1 q = none) → (∀ b o, F1 b = some o → H b = some o) →
    ∃ F2, Same F1 F2 ∧ (∀ b o, F2 b = some o → H b = some o) ∧ DqA K F2 (qs.map V.ref) (xss.map .list) ∧ (∀ b, b ∉ qs → F2 b = F1 b) ∧ ∀ b o, F2 b = some o → F1 b = some o ∨ isTb o = false
  | [], _, F1, h, e, nd, hn, hs => by
    cases h
    exact ⟨F1, Same.refl F1, hs, .nil, fun _ _ => rfl, fun _ _ z => .inl z⟩
  | q :: qs, _, F1, h, e, nd, hn, hs => by
    cases h with
    | @cons _ vs xs _ xss h1 h2 h3 h4 h5 h6 =>
      have nq : q ∉ qs := (List.nodup_cons.mp nd).1
      have e1 : Same F1 (upd F1 q (.lst vs)) := same_new (hn q List.mem_cons_self)
      obtain ⟨F2, a, b, c, d, dd⟩ := Rep.rowsD (F1 := upd F1 q (.lst vs)) h6 (e.trans e1) (List.nodup_cons.mp nd).2 (fun r hr => by
        rw [upd_ne (fun z => nq (by rw [← z]; exact hr))]
        exact hn r (List.mem_cons_of_mem _ hr)) (fun b o z => by
        by_cases hb : b = q
        · rw [hb, upd_same] at z
          cases z
          rw [hb]
          exact h4
        · rw [upd_ne hb] at z
          exact hs b o z)
      exact ⟨F2, e1.trans a, b, .cons (.lst (a _ _ upd_same) (h5.mono ((e.trans e1).trans a))) c, fun r hr => by
        rw [d r (fun z => hr (List.mem_cons_of_mem _ z)), upd_ne (fun z => hr (by rw [z]; exact List.mem_cons_self))], fun b o z => by
        rcases dd b o z with z | z
        · by_cases hb : b = q
          · rw [hb, upd_same] at z
            cases z
            exact .inr rfl
          · rw [upd_ne hb] at z
            exact .inl z
        · exact .inr z⟩
/-- a slot's table is frozen -/
theorem Rep.freezeT {i : Nat} {p : Addr} {qs : List Addr} {xss : List (List PyData)} (R : Rep K G P F H σ s) (h : s.e[i]? = some (.tb p qs xss)) : σ[i]? = some (some (.ref p)) ∧
    ∃ F', Same F F' ∧ Rep K G P F' H σ (s.put i (.d (.list (xss.map .list)))) ∧ Dq K F' (.ref p) (.list (xss.map .list)) := by
  have q0 := R.sl i _ h
  obtain ⟨h1, h2, h3, h4, h5, h6, h7⟩ := q0
  refine ⟨h1, ?_⟩
  have np : p ∉ qs := (List.nodup_cons.mp h6).1
  obtain ⟨F2, a, b, c, d, dd⟩ := Rep.rowsD (F1 := F) h7 (Same.refl F) (List.nodup_cons.mp h6).2 (fun q hq => (h7.at' q hq).1) R.same
  have pF2 : F2 p = none := by rw [d p np]; exact h2
  have e3 : Same F2 (upd F2 p (.lst (qs.map V.ref))) := same_new pF2
  have e : Same F (upd F2 p (.lst (qs.map V.ref))) := a.trans e3
  have out : ∀ r, r ∉ p :: qs → (upd F2 p (.lst (qs.map V.ref))) r = F r := fun r hr => by
    rw [upd_ne (fun z => hr (by rw [z]; exact List.mem_cons_self)), d r (fun z => hr (List.mem_cons_of_mem _ z))]
  have dq : Dq K (upd F2 p (.lst (qs.map V.ref))) (.ref p) (.list (xss.map .list)) := .lst upd_same (c.mono e3)
  refine ⟨_, e, ⟨fun b' o q => ?_, R.keep, fun b' o g => ?_, fun j x hx => ?_, fun j k ys zs r hj hk e1 e2 => ?_, fun a' ha => ?_, by rw [R.len]; exact (List.length_set).symm, fun j k x y r hj hk hr jk oc => ?_, ⟨R.tab.1, (R.tab.2.up a fun b o z => (dd b o z).elim (R.tab.2.2 b o) id).updF pF2⟩⟩, dq⟩
  · by_cases hb : b' = p
    · rw [hb, upd_same] at q
      cases q
      rw [hb]
      exact h5
    · rw [upd_ne hb] at q
      exact b b' o q
  · rw [out b' (fun z => by
      obtain ⟨_, q2, _⟩ := tad_at (R.sl i _ h) z
      rw [q2] at g
      cases g)]
    exact R.apart b' o g
  · rcases set_get hx with ⟨rfl, rfl⟩ | ⟨ne, hx⟩
    · exact ⟨_, h1, dq⟩
    · have q := R.sl j x hx
      cases x with
      | un => exact True.intro
      | d x =>
        obtain ⟨v, a, b⟩ := q
        exact ⟨v, a, b.mono e⟩
      | o ys =>
        obtain ⟨p', vs', g1, g2, g3, g4, g5, g6⟩ := q
        exact ⟨p', vs', g1, by rw [out p' (fun z => R.tbs i j _ _ p' h hx z (Ne.symm ne) (occ_o rfl g1))]; exact g2, g3, g4, g5, g6.mono e⟩
      | pl => exact q
      | sc ns =>
        obtain ⟨a, g1, g2⟩ := q
        exact ⟨a, g1, e.seq g2⟩
      | tb p' qs' xss' => exact q.tbUp rfl e fun r o hr g1 g2 g3 g4 => ⟨by rw [out r (fun z => R.tbs i j _ _ r h hx z (Ne.symm ne) (.inl hr))]; exact g1, g2, g3, g4⟩
  · rcases set_get hj with ⟨_, z⟩ | ⟨_, hj⟩
    · cases z
    · rcases set_get hk with ⟨_, z⟩ | ⟨_, hk⟩
      · cases z
      · exact R.sep j k ys zs r hj hk e1 e2
  · obtain ⟨g1, g2, g3⟩ := R.pool a' ha
    exact ⟨by rw [out a' (fun z => (tad_at (R.sl i _ h) z).2.2.1 (by rw [ha]))]; exact g1, g2, g3⟩
  · rcases set_get hj with ⟨_, rfl⟩ | ⟨_, hj⟩
    · cases hr
    · rcases set_get hk with ⟨_, rfl⟩ | ⟨_, hk⟩
      · rcases oc with z | ⟨⟨_, z⟩, _⟩
        · cases z
        · cases z
      · exact R.tbs j k x y r hj hk hr jk oc
end

/-! ### readings by data -/
abbrev DE := S → (PyData → S → Prop) → Prop
abbrev DA := S → (List PyData → S → Prop) → Prop
abbrev DT := S → (Bool → S → Prop) → Prop
def tE (K : PySem.W.Frag) (w : DE) : TE := fun σ H Q => ∃ G P F s Φ, Rep K G P F H σ s ∧ w s Φ ∧ ∀ v F' H' s' x, Rep K G P F' H' σ s' → Same F F' → Dq K F' v x → Φ x s' → Q v H'
def tA (K : PySem.W.Frag) (w : DA) : TA := fun σ H Q => ∃ G P F s Φ, Rep K G P F H σ s ∧ w s Φ ∧ ∀ vs F' H' s' xs, Rep K G P F' H' σ s' → Same F F' → DqA K F' vs xs → Φ xs s' → Q vs H'
def tT (K : PySem.W.Frag) (w : DT) : TT := fun σ H Q => ∃ G P F s Φ, Rep K G P F H σ s ∧ w s Φ ∧ ∀ b F' H' s', Rep K G P F' H' σ s' → Same F F' → Φ b s' → Q b H'
/-- a new list -/
def tL (K : PySem.W.Frag) (w : DA) : TE := fun σ H Q => ∃ G P F s Φ, Rep K G P F H σ s ∧ w s Φ ∧
  ∀ p vs F' H' s' xs, Rep K G P F' H' σ s' → Same F F' → Nu G P F' σ s' p → H' p = some (.lst vs) → DqA K F' vs xs → Φ xs s' → Q (.ref p) H'
abbrev XE (X : Cx) (e : Expr) (w : DE) : Prop := PE X e (tE X.K w)
abbrev XA (X : Cx) (es : List Expr) (w : DA) : Prop := PA X es (tA X.K w)
abbrev XT (X : Cx) (e : Expr) (w : DT) : Prop := PT X e (tT X.K w)
abbrev XW (X : Cx) (e : Expr) (w : DT) : Prop := PW X e (tT X.K w)
abbrev XL (X : Cx) (e : Expr) (w : DA) : Prop := PE X e (tL X.K w)
section
variable {X : Cx} {e a b c : Expr} {es rest : List Expr}
theorem pe_imp {t t' : TE} (h : PE X e t) (i : ∀ σ H Q, t' σ H Q → t σ H Q) : PE X e t' := ⟨fun pins s σ H Q I q => h.run pins s σ H Q I (i _ _ _ q)⟩
theorem pa_imp {t t' : TA} (h : PA X es t) (i : ∀ σ H Q, t' σ H Q → t σ H Q) : PA X es t' := ⟨fun pos pins s σ H Q I q => h.run pos pins s σ H Q I (i _ _ _ q)⟩
theorem pt_imp {t t' : TT} (h : PT X e t) (i : ∀ σ H Q, t' σ H Q → t σ H Q) : PT X e t' := ⟨fun pins s σ H Q I q => h.run pins s σ H Q I (i _ _ _ q)⟩
theorem pw_imp {t t' : TT} (h : PW X e t) (i : ∀ σ H Q, t' σ H Q → t σ H Q) : PW X e t' := ⟨fun wh pins s σ H Q I q => h.run wh pins s σ H Q I (i _ _ _ q)⟩

/-! names, constants -/
@[simp] def wC (x : PyData) : DE := fun s Φ => Φ x s
@[simp] def wVar (i : Nat) : DE := fun s Φ => match s.e[i]? with
  | some (.d x) => Φ x s
  | some (.o xs) => Φ (.list xs) (s.put i (.d (.list xs)))
  | some (.tb _ _ xss) => Φ (.list (xss.map .list)) (s.put i (.d (.list (xss.map .list))))
  | _ => False
theorem c_of {K : PySem.W.Frag} {v : V} {x : PyData} (d : ∀ F, Dq K F v x) (σ : St) (H : Hp) (Q : VK) (h : tE K (wC x) σ H Q) : Q v H := by
  obtain ⟨G, P, F, s, Φ, R, h, k⟩ := h
  exact k v F H s x R (Same.refl F) (d F) h
theorem xe_int {i j pos} : XE X (.Constant (.int i) j pos) (wC (.int i)) := pe_imp pe_int (c_of fun _ => .int i)
theorem xe_bl {i j pos} : XE X (.Constant (.bool i) j pos) (wC (.bool i)) := pe_imp pe_bl (c_of fun _ => .bl i)
theorem xe_non {j pos} : XE X (.Constant .none j pos) (wC .none) := pe_imp pe_non (c_of fun _ => .non)
theorem xe_str {x j pos} : XE X (.Constant (.str x) j pos) (wC (.str x)) := pe_imp pe_str (c_of fun _ => .str x)
theorem xe_var (i : Nat) {x : Str} {pos : Pos} (hN : X.N[i]? = some x := by rfl) (hv : Vis X.env.scope x := by first | exact Or.inl rfl | exact Or.inr (Or.inl rfl) | exact Or.inr (Or.inr rfl)) (hd : (x == ("__debug__" : Str)) = false := by decide)
    (hcd : (x == ("__classdict__" : Str)) = false := by decide) : XE X (.Name x pos) (wVar i) := by
  refine pe_imp (pe_var hN hv hd hcd) fun σ H Q h => ?_
  obtain ⟨G, P, F, s, Φ, R, h, k⟩ := h
  unfold wVar at h
  cases hs : s.e[i]? with
  | none =>
    rw [hs] at h
    exact h.elim
  | some x =>
    rw [hs] at h
    cases x with
    | un => exact h.elim
    | pl => exact h.elim
    | sc ns => exact h.elim
    | d x =>
      obtain ⟨v, a, b⟩ := R.sl i _ hs
      exact ⟨v, a, k v F H s x R (Same.refl F) b h⟩
    | o xs =>
      obtain ⟨p, vs, h1, h2, h3, R', d⟩ := R.freeze hs
      exact ⟨_, h1, k _ _ H _ _ R' (same_new h3) d h⟩
    | tb p qs xss =>
      obtain ⟨h1, F', e, R', d⟩ := R.freezeT hs
      exact ⟨_, h1, k _ _ H _ _ R' e d h⟩
/-- a constant of the module -/
theorem xe_glob {x : Str} {v : V} {u : Value} {d : PyData} {pos : Pos} (hg : Gl X x) (hm : X.mg x = some u) (r : RelV v u) (hd : ∀ F, Dq X.K F v d) (hdb : (x == ("__debug__" : Str)) = false := by decide) : XE X (.Name x pos) (wC d) :=
  pe_imp (pe_glob hg hm r hdb) (c_of hd)

/-! operations -/
abbrev W2 := PyData → PyData → (PyData → Prop) → Prop
structure Op2 (K : PySem.W.Frag) (r : R2) (w : W2) : Prop where
  run : ∀ {F H : Hp} {x y : V} {dx dy : PyData} (Q : VK) (Φ : PyData → Prop), Same F H → Dq K F x dx → Dq K F y dy → w dx dy Φ → (∀ v F' H' d, Fresh F H F' H' → Dq K F' v d → Φ d → Q v H') → r x y H Q
def rOr (r r' : R2) : R2 := fun x y H Q => r x y H Q ∨ r' x y H Q
theorem opr_or {f : Value → Value → Sem Value} {r r' : R2} (h : OpR X f r) (h' : OpR X f r') : OpR X f (rOr r r') := fun pins s σ H x y v u Q I rx ry q => by
  rcases q with q | q
  · exact h pins s σ H x y v u Q I rx ry q
  · exact h' pins s σ H x y v u Q I rx ry q
theorem Op2.inl {K : PySem.W.Frag} {r r' : R2} {w : W2} (h : Op2 K r w) : Op2 K (rOr r r') w := ⟨fun Q Φ a b c d e => .inl (h.run Q Φ a b c d e)⟩
theorem Op2.inr {K : PySem.W.Frag} {r r' : R2} {w : W2} (h : Op2 K r' w) : Op2 K (rOr r r') w := ⟨fun Q Φ a b c d e => .inr (h.run Q Φ a b c d e)⟩
theorem Op2.or {K : PySem.W.Frag} {r r' : R2} {w w' v : W2} (h : Op2 K r w) (h' : Op2 K r' w') (i : ∀ x y Φ, v x y Φ → w x y Φ ∨ w' x y Φ) : Op2 K (rOr r r') v := ⟨fun Q Φ a b c d e => by
  rcases i _ _ _ d with d | d
  · exact .inl (h.run Q Φ a b c d e)
  · exact .inr (h'.run Q Φ a b c d e)⟩
@[simp] def wBin (w : W2) (wa wb : DE) : DE := fun s Φ => wa s fun x s1 => wb s1 fun y s2 => w x y fun z => Φ z s2
theorem bin_of {K : PySem.W.Frag} {r : R2} {w : W2} {wa wb : DE} (O : Op2 K r w) (σ : St) (H : Hp) (Q : VK) (h : tE K (wBin w wa wb) σ H Q) : tOp r (tE K wa) (tE K wb) σ H Q := by
  obtain ⟨G, P, F, s, Φ, R, h, k⟩ := h
  refine ⟨G, P, F, s, _, R, h, fun x F1 H1 s1 dx R1 e1 d1 h1 => ⟨G, P, F1, s1, _, R1, h1, fun y F2 H2 s2 dy R2 e2 d2 h2 => ?_⟩⟩
  exact O.run Q _ R2.same (d1.mono e2) d2 h2 fun v F3 H3 d f dq q => k v F3 H3 s2 d (R2.fresh f) ((e1.trans e2).trans f.ff) dq q
theorem xe_op {op : Operator} {r : R2} {w : W2} {wa wb : DE} {pos : Pos} (ho : OpR X (binaryOp op) r) (O : Op2 X.K r w) (ha : XE X a wa) (hb : XE X b wb) : XE X (.BinOp a op b pos) (wBin w wa wb) :=
  pe_imp (pe_op ho ha hb) (bin_of O)
theorem xe_cmp {op : CmpOp} {r : R2} {w : W2} {wa wb : DE} {pos : Pos} (ho : OpR X (compareOp op) r) (O : Op2 X.K r w) (ha : XE X a wa) (hb : XE X b wb) (hm : behindInMarks op b = false := by first | exact nobehind _ (by decide) (by decide) | rfl) :
    XE X (.Compare a [op] [b] pos) (wBin w wa wb) := pe_imp (pe_cmpR ho ha hb hm) (bin_of O)
theorem xe_ixR {r : R2} {w : W2} {wa wb : DE} {pos : Pos} (ho : IxR X r) (O : Op2 X.K r w) (ha : XE X a wa) (hb : XE X b wb) (hs : PlainIx b := by exact fun _ _ => rfl) : XE X (.Subscript a b pos) (wBin w wa wb) :=
  pe_imp (pe_ix ho ha hb hs) (bin_of O)
abbrev W1 := PyData → (PyData → Prop) → Prop
structure Op1 (K : PySem.W.Frag) (r : V → Hp → VK → Prop) (w : W1) : Prop where
  run : ∀ {F H : Hp} {x : V} {dx : PyData} (Q : VK) (Φ : PyData → Prop), Same F H → Dq K F x dx → w dx Φ → (∀ v F' H' d, Fresh F H F' H' → Dq K F' v d → Φ d → Q v H') → r x H Q
@[simp] def wUn (w : W1) (wa : DE) : DE := fun s Φ => wa s fun x s1 => w x fun z => Φ z s1
theorem xe_un {op : UnaryOp} {r : V → Hp → VK → Prop} {w : W1} {wa : DE} {pos : Pos} (ho : UnR X (unaryOp op) r) (O : Op1 X.K r w) (ha : XE X a wa) : XE X (.UnaryOp op a pos) (wUn w wa) :=
  pe_imp (pe_un ho ha) fun σ H Q h => by
    obtain ⟨G, P, F, s, Φ, R, h, k⟩ := h
    refine ⟨G, P, F, s, _, R, h, fun x F1 H1 s1 dx R1 e1 d1 h1 => ?_⟩
    exact O.run Q _ R1.same d1 h1 fun v F3 H3 d f dq q => k v F3 H3 s1 d (R1.fresh f) (e1.trans f.ff) dq q

/-! argument lists, displays -/
@[simp] def wNil : DA := fun s Φ => Φ [] s
@[simp] def wCons (wa : DE) (wr : DA) : DA := fun s Φ => wa s fun x s1 => wr s1 fun xs s2 => Φ (x :: xs) s2
theorem xa_nil : XA X [] wNil := pa_imp pa_nil fun σ H Q h => by
  obtain ⟨G, P, F, s, Φ, R, h, k⟩ := h
  exact k [] F H s [] R (Same.refl F) .nil h
theorem xa_cons {wa : DE} {wr : DA} (ha : XE X e wa) (hr : XA X es wr) (hs : starEach (e :: es) X.env = (false, eval e X.env) :: starEach es X.env := by rfl) : XA X (e :: es) (wCons wa wr) :=
  pa_imp (pa_cons ha hr hs) fun σ H Q h => by
    obtain ⟨G, P, F, s, Φ, R, h, k⟩ := h
    refine ⟨G, P, F, s, _, R, h, fun x F1 H1 s1 dx R1 e1 d1 h1 => ⟨G, P, F1, s1, _, R1, h1, fun xs F2 H2 s2 ds R2 e2 d2 h2 => ?_⟩⟩
    exact k _ F2 H2 s2 _ R2 (e1.trans e2) (.cons (d1.mono e2) d2) h2
@[simp] def wTup (w : DA) : DE := fun s Φ => w s fun xs s1 => xs.length ≤ sizeLine ∧ Φ (.tuple xs) s1
theorem xe_tup {x1 pos} {w : DA} (h : XA X es w) : XE X (.Tuple es x1 pos) (wTup w) := pe_imp (pe_tup h) fun σ H Q h => by
  obtain ⟨G, P, F, s, Φ, R, h, k⟩ := h
  refine ⟨G, P, F, s, _, R, h, fun xs F1 H1 s1 ds R1 e1 d1 h1 => ⟨by rw [d1.length]; exact h1.1, fun p hp => ?_⟩⟩
  have f := Fresh.new (o := .tup xs) R1.same hp
  exact k _ _ _ s1 _ (R1.fresh f) (e1.trans f.ff) (.tup (SqT.of upd_same) (d1.mono f.ff)) h1.2
@[simp] def wLst (w : DA) : DA := fun s Φ => w s fun xs s1 => xs.length ≤ sizeLine ∧ Φ xs s1
theorem nu_new {K : PySem.W.Frag} {G F H : Hp} {P : Option Addr} {σ : St} {s : S} {p : Addr} {o : HO} (R : Rep K G P F H σ s) (hp : H p = none) (t : isTb o = false := by rfl) : Rep K G P F (upd H p o) σ s ∧ Nu G P F σ s p :=
  ⟨R.fresh (Fresh.newH R.same hp t), R.nu hp⟩
theorem xl_lst {pos} {w : DA} (h : XA X es w) : XL X (.List es pos) (wLst w) := pe_imp (pe_lst h) fun σ H Q h => by
  obtain ⟨G, P, F, s, Φ, R, h, k⟩ := h
  refine ⟨G, P, F, s, _, R, h, fun xs F1 H1 s1 ds R1 e1 d1 h1 => ⟨by rw [d1.length]; exact h1.1, fun p hp => ?_⟩⟩
  obtain ⟨R2, n⟩ := nu_new (o := .lst xs) R1 hp
  exact k _ _ _ _ s1 _ R2 e1 n upd_same d1 h1.2
/-- a new list as data -/
@[simp] def wFz (w : DA) : DE := fun s Φ => w s fun xs s1 => Φ (.list xs) s1
theorem fz_of {K : PySem.W.Frag} {w : DA} (σ : St) (H : Hp) (Q : VK) (h : tE K (wFz w) σ H Q) : tL K w σ H Q := by
  obtain ⟨G, P, F, s, Φ, R, h, k⟩ := h
  refine ⟨G, P, F, s, _, R, h, fun p vs F1 H1 s1 xs R1 e1 n hp d1 h1 => ?_⟩
  obtain ⟨R2, dq⟩ := R1.take n hp d1
  exact k _ _ _ s1 _ R2 (e1.trans (same_new n.f)) dq h1
theorem xl_fz {w : DA} (h : XL X e w) : XE X e (wFz w) := pe_imp h fz_of

/-! operations that make a list -/
abbrev W2L := PyData → PyData → (List PyData → Prop) → Prop
structure Op2L (K : PySem.W.Frag) (r : R2) (w : W2L) : Prop where
  run : ∀ {F H : Hp} {x y : V} {dx dy : PyData} (Q : VK) (Φ : List PyData → Prop), Same F H → Dq K F x dx → Dq K F y dy → w dx dy Φ → (∀ p vs ds, H p = none → DqA K F vs ds → Φ ds → Q (.ref p) (upd H p (.lst vs))) → r x y H Q
@[simp] def wBinL (w : W2L) (wa wb : DE) : DA := fun s Φ => wa s fun x s1 => wb s1 fun y s2 => w x y fun z => Φ z s2
theorem binL_of {K : PySem.W.Frag} {r : R2} {w : W2L} {wa wb : DE} (O : Op2L K r w) (σ : St) (H : Hp) (Q : VK) (h : tL K (wBinL w wa wb) σ H Q) : tOp r (tE K wa) (tE K wb) σ H Q := by
  obtain ⟨G, P, F, s, Φ, R, h, k⟩ := h
  refine ⟨G, P, F, s, _, R, h, fun x F1 H1 s1 dx R1 e1 d1 h1 => ⟨G, P, F1, s1, _, R1, h1, fun y F2 H2 s2 dy R2 e2 d2 h2 => ?_⟩⟩
  refine O.run Q _ R2.same (d1.mono e2) d2 h2 fun p vs ds hp dq q => ?_
  obtain ⟨R3, n⟩ := nu_new (o := .lst vs) R2 hp
  exact k p vs F2 _ s2 ds R3 (e1.trans e2) n upd_same dq q
theorem xl_op {op : Operator} {r : R2} {w : W2L} {wa wb : DE} {pos : Pos} (ho : OpR X (binaryOp op) r) (O : Op2L X.K r w) (ha : XE X a wa) (hb : XE X b wb) : XL X (.BinOp a op b pos) (wBinL w wa wb) :=
  pe_imp (pe_op ho ha hb) (binL_of O)
/-- one that makes a list, as one that gives data -/
theorem Op2L.op2 {K : PySem.W.Frag} {r : R2} {w : W2L} (O : Op2L K r w) : Op2 K r (fun x y Φ => w x y fun xs => Φ (.list xs)) := ⟨fun {F H x y dx dy} Q Φ e d1 d2 h k => O.run Q _ e d1 d2 h fun p vs ds hp dq q => by
  have f := Fresh.new (o := .lst vs) e hp
  exact k _ _ _ _ f (.lst upd_same (dq.mono f.ff)) q⟩

/-! tests -/
@[simp] def wTst (w : DE) : DT := fun s Φ => w s fun x s1 => match x with
  | .bool b => Φ b s1
  | _ => False
theorem tst_of {K : PySem.W.Frag} {w : DE} (σ : St) (H : Hp) (Q : Bool → Hp → Prop) (h : tT K (wTst w) σ H Q) : tE K w σ H fun x H1 => ∃ k, x = .bl k ∧ Q k H1 := by
  obtain ⟨G, P, F, s, Φ, R, h, k⟩ := h
  refine ⟨G, P, F, s, _, R, h, fun x F1 H1 s1 dx R1 e1 d1 h1 => ?_⟩
  cases dx with
  | bool b =>
    cases d1
    exact ⟨b, rfl, k b F1 H1 s1 R1 e1 h1⟩
  | _ => exact h1.elim
theorem xt_val {w : DE} (h : XE X e w) (he : ∀ whole, isTrue e X.env whole = (do let v ← whole; standAt e.pos; holding [v] (truthy v)) := by intro _; rfl) : XT X e (wTst w) := pt_imp (pt_val h he) tst_of
theorem xt_cmp {op : CmpOp} {r : R2} {w : W2} {wa wb : DE} {pos : Pos} (ho : OpR X (compareOp op) r) (O : Op2 X.K r w) (ha : XE X a wa) (hb : XE X b wb) (hm : behindInMarks op b = false := by first | exact nobehind _ (by decide) (by decide) | rfl) :
    XT X (.Compare a [op] [b] pos) (wTst (wBin w wa wb)) := pt_imp (pt_cmpR ho ha hb hm) fun σ H Q h => by
  obtain ⟨G, P, F, s, Φ, R, h, k⟩ := tst_of σ H Q h
  exact bin_of O σ H _ ⟨G, P, F, s, Φ, R, h, k⟩
@[simp] def wNot (w : DT) : DT := fun s Φ => w s fun b s1 => Φ (!b) s1
theorem xt_not {w : DT} {pos : Pos} (h : XT X a w) : XT X (.UnaryOp .Not a pos) (wNot w) := pt_imp (pt_not h) fun σ H Q h => by
  obtain ⟨G, P, F, s, Φ, R, h, k⟩ := h
  exact ⟨G, P, F, s, _, R, h, fun b F1 H1 s1 R1 e1 h1 => k (!b) F1 H1 s1 R1 e1 h1⟩
@[simp] def wAnd (w u : DT) : DT := fun s Φ => w s fun b s1 => if b = true then u s1 Φ else Φ false s1
@[simp] def wOr (w u : DT) : DT := fun s Φ => w s fun b s1 => if b = true then Φ true s1 else u s1 Φ
theorem and_of {K : PySem.W.Frag} {w u : DT} (σ : St) (H : Hp) (Q : Bool → Hp → Prop) (h : tT K (wAnd w u) σ H Q) : tAnd (tT K w) (tT K u) σ H Q := by
  obtain ⟨G, P, F, s, Φ, R, h, k⟩ := h
  refine ⟨G, P, F, s, _, R, h, fun b F1 H1 s1 R1 e1 h1 => ?_⟩
  cases b with
  | true =>
    rw [if_pos rfl] at h1 ⊢
    exact ⟨G, P, F1, s1, _, R1, h1, fun b F2 H2 s2 R2 e2 h2 => k b F2 H2 s2 R2 (e1.trans e2) h2⟩
  | false =>
    rw [if_neg Bool.false_ne_true] at h1 ⊢
    exact k false F1 H1 s1 R1 e1 h1
theorem or_of {K : PySem.W.Frag} {w u : DT} (σ : St) (H : Hp) (Q : Bool → Hp → Prop) (h : tT K (wOr w u) σ H Q) : tOr (tT K w) (tT K u) σ H Q := by
  obtain ⟨G, P, F, s, Φ, R, h, k⟩ := h
  refine ⟨G, P, F, s, _, R, h, fun b F1 H1 s1 R1 e1 h1 => ?_⟩
  cases b with
  | false =>
    rw [if_neg Bool.false_ne_true] at h1 ⊢
    exact ⟨G, P, F1, s1, _, R1, h1, fun b F2 H2 s2 R2 e2 h2 => k b F2 H2 s2 R2 (e1.trans e2) h2⟩
  | true =>
    rw [if_pos rfl] at h1 ⊢
    exact k true F1 H1 s1 R1 e1 h1
theorem xw_and1 {w : DT} {pos : Pos} (h : XT X a w) : XW X (.BoolOp .And [a] pos) w := pw_and1 h
theorem xw_or1 {w : DT} {pos : Pos} (h : XT X a w) : XW X (.BoolOp .Or [a] pos) w := pw_or1 h
theorem xw_and {w u : DT} {pos : Pos} (ha : XT X a w) (hb : XW X (.BoolOp .And (b :: rest) pos) u) : XW X (.BoolOp .And (a :: b :: rest) pos) (wAnd w u) := pw_imp (pw_and ha hb) and_of
theorem xw_or {w u : DT} {pos : Pos} (ha : XT X a w) (hb : XW X (.BoolOp .Or (b :: rest) pos) u) : XW X (.BoolOp .Or (a :: b :: rest) pos) (wOr w u) := pw_imp (pw_or ha hb) or_of
theorem xw_t {w : DT} (h : XW X e w) : XT X e w := PW.pt h
/-! the same as values: True and False -/
@[simp] def wAndV (w u : DE) : DE := fun s Φ => w s fun x s1 => match x with
  | .bool b => if b = true then u s1 Φ else Φ (.bool false) s1
  | _ => False
@[simp] def wOrV (w u : DE) : DE := fun s Φ => w s fun x s1 => match x with
  | .bool b => if b = true then Φ (.bool true) s1 else u s1 Φ
  | _ => False
@[simp] def wNotV (w : DE) : DE := fun s Φ => w s fun x s1 => match x with
  | .bool b => Φ (.bool (!b)) s1
  | _ => False
theorem xe_one {op} {w : DE} {pos : Pos} (h : XE X a w) : XE X (.BoolOp op [a] pos) w := pe_one h
theorem xe_and {w u : DE} {pos : Pos} (ha : XE X a w) (hb : XE X (.BoolOp .And (b :: rest) pos) u) : XE X (.BoolOp .And (a :: b :: rest) pos) (wAndV w u) := pe_imp (pe_and ha hb) fun σ H Q h => by
  obtain ⟨G, P, F, s, Φ, R, h, k⟩ := h
  refine ⟨G, P, F, s, _, R, h, fun x F1 H1 s1 dx R1 e1 d1 h1 => ?_⟩
  cases dx with
  | bool b =>
    cases d1
    refine ⟨b, rfl, ?_⟩
    cases b with
    | true =>
      rw [if_pos rfl]
      exact ⟨G, P, F1, s1, _, R1, h1, fun y F2 H2 s2 dy R2 e2 d2 h2 => k y F2 H2 s2 dy R2 (e1.trans e2) d2 h2⟩
    | false =>
      rw [if_neg Bool.false_ne_true]
      exact k _ F1 H1 s1 _ R1 e1 (.bl false) h1
  | _ => exact h1.elim
theorem xe_or {w u : DE} {pos : Pos} (ha : XE X a w) (hb : XE X (.BoolOp .Or (b :: rest) pos) u) : XE X (.BoolOp .Or (a :: b :: rest) pos) (wOrV w u) := pe_imp (pe_or ha hb) fun σ H Q h => by
  obtain ⟨G, P, F, s, Φ, R, h, k⟩ := h
  refine ⟨G, P, F, s, _, R, h, fun x F1 H1 s1 dx R1 e1 d1 h1 => ?_⟩
  cases dx with
  | bool b =>
    cases d1
    refine ⟨b, rfl, ?_⟩
    cases b with
    | false =>
      rw [if_neg Bool.false_ne_true]
      exact ⟨G, P, F1, s1, _, R1, h1, fun y F2 H2 s2 dy R2 e2 d2 h2 => k y F2 H2 s2 dy R2 (e1.trans e2) d2 h2⟩
    | true =>
      rw [if_pos rfl]
      exact k _ F1 H1 s1 _ R1 e1 (.bl true) h1
  | _ => exact h1.elim
theorem xe_not {w : DE} {pos : Pos} (ha : XE X a w) : XE X (.UnaryOp .Not a pos) (wNotV w) := pe_imp (pe_not ha) fun σ H Q h => by
  obtain ⟨G, P, F, s, Φ, R, h, k⟩ := h
  refine ⟨G, P, F, s, _, R, h, fun x F1 H1 s1 dx R1 e1 d1 h1 => ?_⟩
  cases dx with
  | bool b =>
    cases d1
    exact ⟨b, rfl, k _ F1 H1 s1 _ R1 e1 (.bl _) h1⟩
  | _ => exact h1.elim
@[simp] def wIfE (t : DT) (w u : DE) : DE := fun s Φ => t s fun b s1 => if b = true then w s1 Φ else u s1 Φ
theorem xe_if {t : DT} {w u : DE} {pos : Pos} (hc : XT X c t) (ha : XE X a w) (hb : XE X b u) : XE X (.IfExp c a b pos) (wIfE t w u) := pe_imp (pe_ifExp hc ha hb) fun σ H Q h => by
  obtain ⟨G, P, F, s, Φ, R, h, k⟩ := h
  refine ⟨G, P, F, s, _, R, h, fun b F1 H1 s1 R1 e1 h1 => ?_⟩
  cases b with
  | true =>
    rw [if_pos rfl] at h1 ⊢
    exact ⟨G, P, F1, s1, _, R1, h1, fun y F2 H2 s2 dy R2 e2 d2 h2 => k y F2 H2 s2 dy R2 (e1.trans e2) d2 h2⟩
  | false =>
    rw [if_neg Bool.false_ne_true] at h1 ⊢
    exact ⟨G, P, F1, s1, _, R1, h1, fun y F2 H2 s2 dy R2 e2 d2 h2 => k y F2 H2 s2 dy R2 (e1.trans e2) d2 h2⟩

/-! calls of built-in functions and types -/
abbrev WN := List PyData → (PyData → Prop) → Prop
structure OpN (K : PySem.W.Frag) (r : List V → Hp → VK → Prop) (w : WN) : Prop where
  run : ∀ {F H : Hp} {xs : List V} {ds : List PyData} (Q : VK) (Φ : PyData → Prop), Same F H → DqA K F xs ds → w ds Φ → (∀ v F' H' d, Fresh F H F' H' → Dq K F' v d → Φ d → Q v H') → r xs H Q
@[simp] def wCB (w : WN) (wa : DA) : DE := fun s Φ => wa s fun xs s1 => w xs fun z => Φ z s1
theorem cb_of {K : PySem.W.Frag} {r : List V → Hp → VK → Prop} {w : WN} {wa : DA} (O : OpN K r w) (σ : St) (H : Hp) (Q : VK) (h : tE K (wCB w wa) σ H Q) : tCB r (tA K wa) σ H Q := by
  obtain ⟨G, P, F, s, Φ, R, h, k⟩ := h
  refine ⟨G, P, F, s, _, R, h, fun xs F1 H1 s1 ds R1 e1 d1 h1 => ?_⟩
  exact O.run Q _ R1.same d1 h1 fun v F3 H3 d f dq q => k v F3 H3 s1 d (R1.fresh f) (e1.trans f.ff) dq q
theorem xe_callB {x : Str} {p pos : Pos} {id : String} {r : List V → Hp → VK → Prop} {w : WN} {wa : DA} (hc : CallR X (.builtin id) r) (O : OpN X.K r w) (hg : Gl X x) (hm : X.mg x = none) (hv : bootBuiltins x = some (.builtin id)) (ha : XA X (e :: es) wa)
    (hn : x ≠ "__name__" := by decide) (hdb : (x == ("__debug__" : Str)) = false := by decide) (he : starEach (e :: es) X.env = (false, eval e X.env) :: starEach es X.env := by rfl) (hpl : (backTo pos (starEach es X.env)).any (·.1) = false := by rfl) :
    XE X (.Call (.Name x p) (e :: es) [] pos) (wCB w wa) := pe_imp (pe_callB hc hg hm hv ha hn hdb he hpl) (cb_of O)
theorem xe_callTy {x : Str} {p pos : Pos} {T : String} {r : List V → Hp → VK → Prop} {w : WN} {wa : DA} (hc : CallR X (.type T) r) (O : OpN X.K r w) (hg : Gl X x) (hm : X.mg x = none) (hv : bootBuiltins x = some (.type T)) (ha : XA X (e :: es) wa)
    (hn : x ≠ "__name__" := by decide) (hdb : (x == ("__debug__" : Str)) = false := by decide) (he : starEach (e :: es) X.env = (false, eval e X.env) :: starEach es X.env := by rfl) (hpl : (backTo pos (starEach es X.env)).any (·.1) = false := by rfl) :
    XE X (.Call (.Name x p) (e :: es) [] pos) (wCB w wa) := pe_imp (pe_callTy hc hg hm hv ha hn hdb he hpl) (cb_of O)
end
end DL
/-! DL, second part: statements, loops, comprehensions, defs. -/
namespace DL
open PySem PySem.Spec L2

structure EN where
  nx : S → Prop
  rt : PyData → S → Prop
  bk : S → Prop := fun _ => False
  ct : S → Prop := fun _ => False
  rl : List PyData → S → Prop := fun _ _ => False
  ex : Str → List PyData → S → Prop := fun _ _ _ => False
/-- a wish about what is raised: the class's name, the error's own data -/
abbrev XWish := Str → List PyData → Hp → L2.St → Hp → Prop
/-- what X takes -/
def wishOf (X : Cx) : WX := fun cls d σ H => ∀ u s', L2.XE X (fun c e σ' H' => c = cls ∧ e = d ∧ σ' = σ ∧ H' = H) u s' → X.xe u s'
theorem takes_wish (X : Cx) : Takes X (wishOf X) := fun u s' ⟨a, B, sI, pins, σ, H, cls, d, e, I, nb, up, sky, na, os, ag, w⟩ => w u s' ⟨a, B, sI, pins, σ, H, cls, d, e, I, nb, up, sky, na, os, ag, rfl, rfl, rfl, rfl⟩
theorem wish_of {X : Cx} {W : WX} (t : Takes X W) {cls : Value} {d : Option Addr} {σ : L2.St} {H : Hp} (w : W cls d σ H) : wishOf X cls d σ H := fun u s' ⟨a, B, sI, pins, σ1, H1, cls1, d1, e, I, nb, up, sky, na, os, ag, e1, e2, e3, e4⟩ => by
  subst e1
  subst e2
  subst e3
  subst e4
  exact t u s' ⟨a, B, sI, pins, _, _, _, _, e, I, nb, up, sky, na, os, ag, w⟩
/-- a wish over data: an error without fields, or with fields told by its own dict -/
def Wsh (mg : Str → Option Value) (W : Value → Option Addr → Prop) (c : Str) (xs : List PyData) (F : Hp) : Prop := ∀ C, mg c = some (.ref C) → (xs = [] → W (.ref C) none) ∧ (xs ≠ [] → ∀ d fs, F d = some (.xd fs) → FldF fs xs → W (.ref C) (some d))
theorem Wsh.imp {mg : Str → Option Value} {W W' : Value → Option Addr → Prop} {c : Str} {xs : List PyData} {F : Hp} (h : Wsh mg W c xs F) (i : ∀ cls d, W cls d → W' cls d) : Wsh mg W' c xs F := fun C gC =>
  ⟨fun e => i _ _ ((h C gC).1 e), fun e d fs a b => i _ _ ((h C gC).2 e d fs a b)⟩
def wX (X : Cx) : XWish := fun c xs F σ H => Wsh X.mg (fun cls d => wishOf X cls d σ H) c xs F
abbrev DS := EN → S → Prop
/-- what is known of the ends -/
structure Beh (K : PySem.W.Frag) (G : Hp) (P : Option Addr) (F : Hp) (Φ : EN) (D : Ends) (W : XWish) : Prop where
  nx : ∀ σ' F' H' s', Rep K G P F' H' σ' s' → Same F F' → Φ.nx s' → D.nx σ' H'
  rt : ∀ v σ' F' H' s' x, Rep K G P F' H' σ' s' → Same F F' → Dq K F' v x → Φ.rt x s' → D.rt v H'
  bk : ∀ σ' F' H' s', Rep K G P F' H' σ' s' → Same F F' → Φ.bk s' → D.bk σ' H'
  ct : ∀ σ' F' H' s', Rep K G P F' H' σ' s' → Same F F' → Φ.ct s' → D.ct σ' H'
  rl : ∀ p vs σ' F' H' s' xs, Rep K G P F' H' σ' s' → Same F F' → Nu G P F' σ' s' p → H' p = some (.lst vs) → DqA K F' vs xs → Φ.rl xs s' → D.rt (.ref p) H'
  ex : ∀ c xs σ' F' H' s', Rep K G P F' H' σ' s' → Same F F' → Φ.ex c xs s' → W c xs F' σ' H'
theorem Beh.up {K : PySem.W.Frag} {G F F' : Hp} {P : Option Addr} {Φ : EN} {D : Ends} {W : XWish} (b : Beh K G P F Φ D W) (e : Same F F') : Beh K G P F' Φ D W :=
  ⟨fun σ' F2 H' s' R e2 => b.nx σ' F2 H' s' R (e.trans e2), fun v σ' F2 H' s' x R e2 => b.rt v σ' F2 H' s' x R (e.trans e2), fun σ' F2 H' s' R e2 => b.bk σ' F2 H' s' R (e.trans e2), fun σ' F2 H' s' R e2 => b.ct σ' F2 H' s' R (e.trans e2),
    fun p vs σ' F2 H' s' xs R e2 => b.rl p vs σ' F2 H' s' xs R (e.trans e2), fun c xs σ' F2 H' s' R e2 => b.ex c xs σ' F2 H' s' R (e.trans e2)⟩
def tS (K : PySem.W.Frag) (W : XWish) (w : DS) : TS := fun D σ H => ∃ G P F s Φ, Rep K G P F H σ s ∧ w Φ s ∧ Beh K G P F Φ D W
abbrev XS (X : Cx) (st : Stmt) (w : DS) : Prop := PS X st (tS X.K (wX X) w)
abbrev XSs (X : Cx) (st : List Stmt) (w : DS) : Prop := PSs X st (tS X.K (wX X) w)
section
variable {X : Cx} {st : Stmt} {sts rest : List Stmt} {e : Expr} {pos : Pos}
theorem ps_imp {t t' : TS} (h : PS X st t) (i : ∀ D σ H, t' D σ H → t D σ H) : PS X st t' := ⟨fun pins s σ H D I q => h.run pins s σ H D I (i _ _ _ q)⟩
theorem pss_imp {t t' : TS} (h : PSs X sts t) (i : ∀ D σ H, t' D σ H → t D σ H) : PSs X sts t' := ⟨fun pins s σ H D I q => h.run pins s σ H D I (i _ _ _ q)⟩
@[simp] def wNext : DS := fun Φ s => Φ.nx s
@[simp] def wSeq (w u : DS) : DS := fun Φ s => w { Φ with nx := u Φ } s
theorem xs_nil : XSs X [] wNext := pss_imp pss_nil fun D σ H h => by
  obtain ⟨G, P, F, s, Φ, R, h, b⟩ := h
  exact b.nx σ F H s R (Same.refl F) h
theorem xs_one {w : DS} (h : XS X st w) : XSs X [st] w := pss_one h
theorem xs_cons {w u : DS} (h : XS X st w) (hr : XSs X rest u) : XSs X (st :: rest) (wSeq w u) := pss_imp (pss_cons h hr) fun D σ H h => by
  obtain ⟨G, P, F, s, Φ, R, h, b⟩ := h
  exact ⟨G, P, F, s, _, R, h, ⟨fun σ' F' H' s' R' e q => ⟨G, P, F', s', Φ, R', q, b.up e⟩, b.rt, b.bk, b.ct, b.rl, b.ex⟩⟩
theorem xs_pass : XS X (.Pass pos) wNext := ps_imp ps_pass fun D σ H h => by
  obtain ⟨G, P, F, s, Φ, R, h, b⟩ := h
  exact b.nx σ F H s R (Same.refl F) h
@[simp] def wBk : DS := fun Φ s => Φ.bk s
@[simp] def wCt : DS := fun Φ s => Φ.ct s
theorem xs_break : XS X (.Break pos) wBk := ps_imp ps_break fun D σ H h => by
  obtain ⟨G, P, F, s, Φ, R, h, b⟩ := h
  exact b.bk σ F H s R (Same.refl F) h
theorem xs_continue : XS X (.Continue pos) wCt := ps_imp ps_continue fun D σ H h => by
  obtain ⟨G, P, F, s, Φ, R, h, b⟩ := h
  exact b.ct σ F H s R (Same.refl F) h
@[simp] def wExp (w : DE) : DS := fun Φ s => w s fun _ s1 => Φ.nx s1
theorem xs_expr {w : DE} (h : XE X e w) (hs : swapsWith e none pos.line X.env = pure false := by rfl) : XS X (.Expr e pos) (wExp w) := ps_imp (ps_expr h hs) fun D σ H h => by
  obtain ⟨G, P, F, s, Φ, R, h, b⟩ := h
  exact ⟨G, P, F, s, _, R, h, fun v F' H' s' x R' e _ q => b.nx σ F' H' s' R' e q⟩
@[simp] def wRet (w : DE) : DS := fun Φ s => w s Φ.rt
theorem xs_ret {w : DE} (h : XE X e w) : XS X (.Return (some e) pos) (wRet w) := ps_imp (ps_ret h) fun D σ H h => by
  obtain ⟨G, P, F, s, Φ, R, h, b⟩ := h
  exact ⟨G, P, F, s, _, R, h, fun v F' H' s' x R' e d q => b.rt v σ F' H' s' x R' e d q⟩
/-- return of a new list -/
@[simp] def wRetL (w : DA) : DS := fun Φ s => w s Φ.rl
theorem xs_retL {w : DA} (h : XL X e w) : XS X (.Return (some e) pos) (wRetL w) := ps_imp (ps_ret h) fun D σ H h => by
  obtain ⟨G, P, F, s, Φ, R, h, b⟩ := h
  exact ⟨G, P, F, s, _, R, h, fun p vs F' H' s' xs R' e n hp d q => b.rl p vs σ F' H' s' xs R' e n hp d q⟩
@[simp] def wRetN : DS := fun Φ s => Φ.rt .none s
theorem xs_retN : XS X (.Return none pos) wRetN := ps_imp ps_retN fun D σ H h => by
  obtain ⟨G, P, F, s, Φ, R, h, b⟩ := h
  exact b.rt _ σ F H s _ R (Same.refl F) .non h
@[simp] def wIfS (t : DT) (w u : DS) : DS := fun Φ s => t s fun b s1 => if b = true then w Φ s1 else u Φ s1
theorem xs_if {c : Expr} {a b : List Stmt} {t : DT} {w u : DS} (hc : XT X c t) (ha : XSs X a w) (hb : XSs X b u) : XS X (.If c a b pos) (wIfS t w u) := ps_imp (ps_if hc ha hb) fun D σ H h => by
  obtain ⟨G, P, F, s, Φ, R, h, b⟩ := h
  refine ⟨G, P, F, s, _, R, h, fun k F' H' s' R' e q => ?_⟩
  cases k with
  | true =>
    rw [if_pos rfl] at q ⊢
    exact ⟨G, P, F', s', Φ, R', q, b.up e⟩
  | false =>
    rw [if_neg Bool.false_ne_true] at q ⊢
    exact ⟨G, P, F', s', Φ, R', q, b.up e⟩

/-! assignments -/
@[simp] def wSet (i : Nat) (w : DE) : DS := fun Φ s => w s fun x s1 => Φ.nx (s1.put i (.d x))
theorem set_of {K : PySem.W.Frag} {W : XWish} {i : Nat} {w : DE} (D : Ends) (σ : L2.St) (H : Hp) (h : tS K W (wSet i w) D σ H) : tAsg (tE K w) (gName i) D σ H := by
  obtain ⟨G, P, F, s, Φ, R, h, b⟩ := h
  exact ⟨G, P, F, s, _, R, h, fun v F' H' s' x R' e d q => b.nx _ F' H' _ (R'.setD d) e q⟩
theorem xs_set {i : Nat} {x : Str} {w : DE} {pos' : Pos} (hN : X.N.Nodup) (hi : X.N[i]? = some x) (hx : Loc X.env.scope x) (h : XE X e w) (hs : swapsWith e (some (.Name x pos')) pos.line X.env = pure false := by rfl)
    (hf : X.fn x = true ∨ X.env.scope.names.lookup x = some .local := by first | exact .inl rfl | exact .inr rfl | assumption) : XS X (.Assign [.Name x pos'] e pos) (wSet i w) := ps_imp (ps_set hN hi hx h hs hf) set_of
@[simp] def wSetO (i : Nat) (w : DA) : DS := fun Φ s => w s fun x s1 => Φ.nx (s1.put i (.o x))
theorem setO_of {K : PySem.W.Frag} {W : XWish} {i : Nat} {w : DA} (D : Ends) (σ : L2.St) (H : Hp) (h : tS K W (wSetO i w) D σ H) : tAsg (tL K w) (gName i) D σ H := by
  obtain ⟨G, P, F, s, Φ, R, h, b⟩ := h
  exact ⟨G, P, F, s, _, R, h, fun p vs F' H' s' x R' e n hp d q => b.nx _ F' H' _ (R'.setO n hp d) e q⟩
theorem xs_setO {i : Nat} {x : Str} {w : DA} {pos' : Pos} (hN : X.N.Nodup) (hi : X.N[i]? = some x) (hx : Loc X.env.scope x) (h : XL X e w) (hs : swapsWith e (some (.Name x pos')) pos.line X.env = pure false := by rfl)
    (hf : X.fn x = true ∨ X.env.scope.names.lookup x = some .local := by first | exact .inl rfl | exact .inr rfl | assumption) : XS X (.Assign [.Name x pos'] e pos) (wSetO i w) := ps_imp (ps_set hN hi hx h hs hf) setO_of
/-- name += e -/
@[simp] def wAug (i : Nat) (f : Int → Int → Int) (w : DE) : DS := fun Φ s => match s.e[i]? with
  | some (.d (.int a)) => w s fun x s1 => match x with
    | .int b => Φ.nx (s1.put i (.d (.int (f a b))))
    | _ => False
  | _ => False
theorem xs_aug {i : Nat} {x : Str} {w : DE} {op : Operator} {f : Int → Int → Int} {pos' : Pos} (hN : X.N.Nodup) (hi : X.N[i]? = some x) (hx : Loc X.env.scope x) (h : XE X e w) (ho : PIp X op (ipI f))
    (hf : X.fn x = true ∨ X.env.scope.names.lookup x = some .local := by first | exact .inl rfl | exact .inr rfl | assumption) : XS X (.AugAssign (.Name x pos') op e pos) (wAug i f w) := ps_imp (ps_aug hN hi hx h ho hf) fun D σ H h => by
  obtain ⟨G, P, F, s, Φ, R, h, b⟩ := h
  unfold wAug at h
  cases hs : s.e[i]? with
  | none =>
    rw [hs] at h
    exact h.elim
  | some z =>
    rw [hs] at h
    cases z with
    | d z =>
      cases z with
      | int a =>
        obtain ⟨v, e1, e2⟩ := R.sl i _ hs
        cases e2
        refine ⟨_, e1, G, P, F, s, _, R, h, fun y F' H' s' y' R' e d q => ?_⟩
        cases y' with
        | int c =>
          cases d
          exact ⟨a, c, rfl, rfl, b.nx _ F' H' _ (R'.setD (.int _)) e q⟩
        | _ => exact q.elim
      | _ => exact h.elim
    | _ => exact h.elim

/-! one's own lists -/
@[simp] def ownAt (s : S) (i : Nat) (k : List PyData → Prop) : Prop := match s.e[i]? with
  | some (.o xs) => k xs
  | _ => False
theorem ownAt_of {s : S} {i : Nat} {k : List PyData → Prop} (h : ownAt s i k) : ∃ xs, s.e[i]? = some (.o xs) ∧ k xs := by
  unfold ownAt at h
  cases hs : s.e[i]? with
  | none =>
    rw [hs] at h
    exact h.elim
  | some z =>
    rw [hs] at h
    cases z with
    | o xs => exact ⟨xs, rfl, h⟩
    | _ => exact h.elim
/-- return of one's own list -/
@[simp] def wRetO (i : Nat) : DS := fun Φ s => ownAt s i fun xs => Φ.rl xs (s.put i .un)
theorem Rep.out {K : PySem.W.Frag} {G F H : Hp} {P : Option Addr} {σ : L2.St} {s : S} {i : Nat} {xs : List PyData} (R : Rep K G P F H σ s) (h : s.e[i]? = some (.o xs)) :
    ∃ p vs, σ[i]? = some (some (.ref p)) ∧ H p = some (.lst vs) ∧ DqA K F vs xs ∧ Rep K G P F H σ (s.put i .un) ∧ Nu G P F σ (s.put i .un) p := by
  obtain ⟨p, vs, h1, h2, h3, h4, h5, h6⟩ := R.sl i _ h
  refine ⟨p, vs, h1, h5, h6, ⟨R.same, R.keep, R.apart, fun j x hx => ?_, fun j k ys zs r hj hk e1 e2 => ?_, R.pool, by rw [R.len]; exact (List.length_set).symm, fun j k x y r hj hk hr jk oc => ?_, R.tab⟩, ⟨h2, h3, h4, fun j ys hj e => ?_, fun j x hj hr => ?_⟩⟩
  · rcases set_get hx with ⟨_, rfl⟩ | ⟨_, hx⟩
    · exact True.intro
    · exact R.sl j x hx
  · rcases set_get hj with ⟨_, z⟩ | ⟨_, hj⟩
    · cases z
    · rcases set_get hk with ⟨_, z⟩ | ⟨_, hk⟩
      · cases z
      · exact R.sep j k ys zs r hj hk e1 e2
  · rcases set_get hj with ⟨_, rfl⟩ | ⟨_, hj⟩
    · cases hr
    · rcases set_get hk with ⟨_, rfl⟩ | ⟨_, hk⟩
      · rcases oc with z | ⟨⟨_, z⟩, _⟩
        · cases z
        · cases z
      · exact R.tbs j k x y r hj hk hr jk oc
  · rcases set_get hj with ⟨_, z⟩ | ⟨ne, hj⟩
    · cases z
    · exact ne (R.sep j i ys xs p hj h e h1)
  · rcases set_get hj with ⟨_, rfl⟩ | ⟨ne, hj⟩
    · cases hr
    · exact R.tbs j i x _ p hj h hr ne (occ_o rfl h1)
theorem xs_retO {i : Nat} {x : Str} {xp : Pos} (hv : PE X (.Name x xp) (tVar i)) : XS X (.Return (some (.Name x xp)) pos) (wRetO i) := ps_imp (ps_ret hv) fun D σ H h => by
  obtain ⟨G, P, F, s, Φ, R, h, b⟩ := h
  obtain ⟨xs, h0, h⟩ := ownAt_of h
  obtain ⟨p, vs, e1, e2, e3, R2, n⟩ := R.out h0
  exact ⟨_, e1, b.rl p vs σ F H _ xs R2 (Same.refl F) n e2 e3 h⟩
/-- the script's items and length -/
@[simp] def scAt (s : S) (i : Nat) (k : List Int → Prop) : Prop := match s.e[i]? with
  | some (.sc ns) => k ns
  | _ => False
theorem scAt_of {s : S} {i : Nat} {k : List Int → Prop} (h : scAt s i k) : ∃ ns, s.e[i]? = some (.sc ns) ∧ k ns := by
  unfold scAt at h
  cases hs : s.e[i]? with
  | none =>
    rw [hs] at h
    exact h.elim
  | some z =>
    rw [hs] at h
    cases z with
    | sc ns => exact ⟨ns, rfl, h⟩
    | _ => exact h.elim
@[simp] def wScLen (i : Nat) : DE := fun s Φ => scAt s i fun ns => Φ (.int ns.length) s
theorem xe_scLen {i : Nat} {x : Str} {xp p1 : Pos} (hg : Gl X "len") (hm : X.mg "len" = none) (hv : PE X (.Name x xp) (tVar i)) (he : starEach [.Name x xp] X.env = (false, eval (.Name x xp) X.env) :: starEach [] X.env := by rfl)
    (hpl : (backTo pos (starEach [] X.env)).any (·.1) = false := by rfl) : XE X (.Call (.Name "len" p1) [.Name x xp] [] pos) (wScLen i) :=
  pe_imp (pe_callB call_len_seq hg hm (by decide +kernel) (pa_cons hv pa_nil he) (by decide) (by decide) he hpl) fun σ H Q h => by
    obtain ⟨G, P, F, s, Φ, R, h, kk⟩ := h
    obtain ⟨ns, h0, h⟩ := scAt_of h
    obtain ⟨a, g1, g2⟩ := R.sl i _ h0
    refine ⟨_, g1, a, _, rfl, .inl (R.same.seq g2), ?_⟩
    rw [List.length_map]
    exact kk _ F H s _ R (Same.refl F) (.int _) h
@[simp] def wScIx (i : Nat) (wb : DE) : DE := fun s Φ => wb s fun k s1 => scAt s1 i fun ns => match k with
  | .int k => 0 ≤ k ∧ k < ns.length ∧ Φ (.int (ns.getD k.toNat 0)) s1
  | _ => False
/-- x.append(e) -/
@[simp] def wApp (i : Nat) (w : DE) : DS := fun Φ s => ownAt s i fun _ => w s fun x s1 => ownAt s1 i fun xs => xs.length < sizeLine ∧ Φ.nx (s1.put i (.o (xs ++ [x])))
theorem app_of {K : PySem.W.Frag} {W : XWish} {i : Nat} {w : DE} (D : Ends) (σ : L2.St) (H : Hp) (h : tS K W (wApp i w) D σ H) : tDrop (tBM K "list" rAppend (tVar i) (tCons (tE K w) tNil)) D σ H := by
  obtain ⟨G, P, F, s, Φ, R, h, b⟩ := h
  obtain ⟨xs0, h0, h⟩ := ownAt_of h
  obtain ⟨p, vs, e1, _, _, _, e5, _⟩ := R.sl i _ h0
  refine ⟨_, e1, .inl ⟨rfl, _, SqL.of e5⟩, G, P, F, s, _, R, h, fun y F' H' s' x R' e d q => ?_⟩
  obtain ⟨xs, h1, hl, q⟩ := ownAt_of q
  obtain ⟨p', vs', g1, _, _, _, g5, g6⟩ := R'.sl i _ h1
  rw [e1] at g1
  cases g1
  exact ⟨_, vs', y, rfl, rfl, g5, by rw [g6.length]; exact hl, b.nx _ F' _ _ (R'.wrO h1 e1 (g6.append (.cons d .nil))) e q⟩
theorem xs_append {i : Nat} {x : Str} {xp p1 p2 : Pos} {a : Expr} {w : DE} (hv : PE X (.Name x xp) (tVar i)) (h : XE X a w)
    (hbase : attributeBase (.Name x xp) "append" X.env (eval (.Name x xp) X.env) = eval (.Name x xp) X.env := by rfl)
    (hfew : ((backTo p2 (starEach [a] X.env)).all (fun x => !x.1) && (backToKw p2 (keywordEach [] X.env)).all (fun x => x.1.isSome) && decide ([a].length + ([] : List Keyword).length + (if ([] : List Keyword).isEmpty then 0 else 1) < 30)) = true := by rfl)
    (hline : (p1.endLine == p2.line) = true := by rfl) (hs : starEach [a] X.env = (false, eval a X.env) :: starEach [] X.env := by rfl) (hplain : (backTo p2 (starEach [] X.env)).any (·.1) = false := by rfl)
    (hsw : swapsWith (.Call (.Attribute (.Name x xp) "append" p1) [a] [] p2) none pos.line X.env = pure false := by rfl) : XS X (.Expr (.Call (.Attribute (.Name x xp) "append" p1) [a] [] p2) pos) (wApp i w) :=
  ps_imp (ps_expr (pe_bm PySem.F.plainAttrs_list PySem.F.slot_list_append PySem.F.type_list_append mt_append hv (pa_cons h pa_nil hs) hbase hfew hline hs hplain) hsw) app_of
/-- x[k] = e -/
@[simp] def wItem (i : Nat) (wi we : DE) : DS := fun Φ s => we s fun x s1 => ownAt s1 i fun _ => wi s1 fun k s2 => ownAt s2 i fun xs => match k with
  | .int k => match ixN xs.length k with
    | some j => Φ.nx (s2.put i (.o (xs.set j x)))
    | none => False
  | _ => False
theorem xs_item {i : Nat} {x : Str} {xp p1 : Pos} {a k : Expr} {wi we : DE} (hv : PE X (.Name x xp) (tVar i)) (hk : XE X k wi) (h : XE X a we)
    (hs : swapsWithSole [.Subscript (.Name x xp) k p1] a pos.line X.env = pure false := by rfl) (hw : swappedStores [.Subscript (.Name x xp) k p1] a X.env = pure none := by rfl)
    (hasg : ∀ u, assign (.Subscript (.Name x xp) k p1) X.env u = (do let ov ← holding [u] (eval (.Name x xp) X.env); let iv ← holding [u, ov] (eval k X.env); standAt p1; holding [u, ov, iv] (setItem ov iv u); release [u, ov, iv] []) := by intro _; rfl) : XS X (.Assign [.Subscript (.Name x xp) k p1] a pos) (wItem i wi we) :=
  ps_imp (ps_asg h (pg_sub hv hk set_list hasg) hs hw) fun D σ H h => by
    obtain ⟨G, P, F, s, Φ, R, h, b⟩ := h
    refine ⟨G, P, F, s, _, R, h, fun v F1 H1 s1 x R1 e1 d1 q1 => ?_⟩
    obtain ⟨xs0, h0, q1⟩ := ownAt_of q1
    obtain ⟨p, vs, g1, _, _, _, g5, _⟩ := R1.sl i _ h0
    refine ⟨_, g1, G, P, F1, s1, _, R1, q1, fun u F2 H2 s2 y R2 e2 d2 q2 => ?_⟩
    obtain ⟨xs, h1, q2⟩ := ownAt_of q2
    obtain ⟨p', vs', k1, _, _, _, k5, k6⟩ := R2.sl i _ h1
    rw [g1] at k1
    cases k1
    cases y with
    | int k =>
      cases d2
      dsimp only at q2
      cases hj : ixN xs.length k with
      | none =>
        rw [hj] at q2
        exact q2.elim
      | some j =>
        rw [hj] at q2
        exact ⟨_, vs', k, j, rfl, rfl, k5, by rw [k6.length]; exact hj, b.nx _ F2 _ _ (R2.wrO h1 g1 (k6.set j (d1.mono e2))) (e1.trans e2) q2⟩
    | _ => exact q2.elim
/-- x[k], x one's own -/
@[simp] def wOwnIx (i : Nat) (wb : DE) : DE := fun s Φ => ownAt s i fun _ => wb s fun k s1 => ownAt s1 i fun xs => match k with
  | .int k => match atI xs k with
    | some d => Φ d s1
    | none => False
  | _ => False
theorem atI_get {α : Type} {xs : List α} {k : Int} {d : α} (h : atI xs k = some d) : ∃ j, ixN xs.length k = some j ∧ xs[j]? = some d := by
  unfold atI at h
  cases e : ixN xs.length k with
  | none =>
    rw [e] at h
    cases h
  | some j =>
    rw [e] at h
    exact ⟨j, rfl, h⟩
theorem atI_up {K : PySem.W.Frag} {F : Hp} {vs : List V} {xs : List PyData} {k : Int} {d : PyData} (h : DqA K F vs xs) (e : atI xs k = some d) : ∃ v, atI vs k = some v ∧ Dq K F v d := by
  obtain ⟨j, e1, e2⟩ := atI_get e
  obtain ⟨v, a, b⟩ := h.get e2
  refine ⟨v, ?_, b⟩
  unfold atI
  rw [h.length, e1]
  exact a
theorem xe_ownIx {i : Nat} {x : Str} {xp : Pos} {k : Expr} {wb : DE} (hv : PE X (.Name x xp) (tVar i)) (hk : XE X k wb) (hs : PlainIx k := by exact fun _ _ => rfl) : XE X (.Subscript (.Name x xp) k pos) (wOwnIx i wb) :=
  pe_imp (pe_ix ix_list hv hk hs) fun σ H Q h => by
    obtain ⟨G, P, F, s, Φ, R, h, kk⟩ := h
    obtain ⟨xs0, h0, h⟩ := ownAt_of h
    obtain ⟨p, vs, g1, _⟩ := R.sl i _ h0
    refine ⟨_, g1, G, P, F, s, _, R, h, fun u F2 H2 s2 y R2 e2 d2 q2 => ?_⟩
    obtain ⟨xs, h1, q2⟩ := ownAt_of q2
    obtain ⟨p', vs', k1, _, _, _, k5, k6⟩ := R2.sl i _ h1
    rw [g1] at k1
    cases k1
    cases y with
    | int k =>
      cases d2
      dsimp only at q2
      cases hj : atI xs k with
      | none =>
        rw [hj] at q2
        exact q2.elim
      | some d =>
        rw [hj] at q2
        obtain ⟨v, a, b⟩ := atI_up k6 hj
        exact ⟨_, vs', k, v, rfl, rfl, SqL.of k5, a, kk v F2 H2 s2 d R2 e2 b q2⟩
    | _ => exact q2.elim
/-- len(x), x one's own -/
@[simp] def wOwnLen (i : Nat) : DE := fun s Φ => ownAt s i fun xs => Φ (.int xs.length) s
theorem xe_ownLen {i : Nat} {x : Str} {xp p1 : Pos} (hg : Gl X "len") (hm : X.mg "len" = none) (hv : PE X (.Name x xp) (tVar i)) (he : starEach [.Name x xp] X.env = (false, eval (.Name x xp) X.env) :: starEach [] X.env := by rfl)
    (hpl : (backTo pos (starEach [] X.env)).any (·.1) = false := by rfl) : XE X (.Call (.Name "len" p1) [.Name x xp] [] pos) (wOwnLen i) :=
  pe_imp (pe_callB call_len_seq hg hm (by decide +kernel) (pa_cons hv pa_nil he) (by decide) (by decide) he hpl) fun σ H Q h => by
    obtain ⟨G, P, F, s, Φ, R, h, kk⟩ := h
    obtain ⟨xs, h0, h⟩ := ownAt_of h
    obtain ⟨p, vs, g1, _, _, _, g5, g6⟩ := R.sl i _ h0
    refine ⟨_, g1, p, vs, rfl, .inl (SqL.of g5), ?_⟩
    rw [g6.length]
    exact kk _ F H s _ R (Same.refl F) (.int _) h
end

/-! ### what is walked -/
/-- J yields xs -/
def Yl (K : PySem.W.Frag) (F : Hp) (J : It) (xs : List PyData) : Prop := ∀ F1 H1, Same F F1 → Same F1 H1 → ∀ i : Nat,
  (∀ x, xs[i]? = some x → J.go i H1 ∧ ∀ v H2, J.yld i H1 v H2 → ∃ F2, Fresh F1 H1 F2 H2 ∧ Dq K F2 v x) ∧ (xs.length ≤ i → J.stop i H1)
theorem Yl.up {K : PySem.W.Frag} {F F' : Hp} {J : It} {xs : List PyData} (h : Yl K F J xs) (e : Same F F') : Yl K F' J xs := fun F1 H1 a b i => h F1 H1 (e.trans a) b i
abbrev DI := S → (List PyData → S → Prop) → Prop
def tI (K : PySem.W.Frag) (w : DI) : TI := fun σ H R => ∃ G P F s Φ, Rep K G P F H σ s ∧ w s Φ ∧ ∀ J F' H' s' xs, Rep K G P F' H' σ s' → Same F F' → Yl K F' J xs → Φ xs s' → R J H'
abbrev XI (X : Cx) (tg iter : Expr) (w : DI) : Prop := PI X tg iter (tI X.K w)
theorem pi_imp {X : Cx} {tg iter : Expr} {t t' : TI} (h : PI X tg iter t) (i : ∀ σ H R, t' σ H R → t σ H R) : PI X tg iter t' := ⟨fun pins s σ H R I q => h.run pins s σ H R I (i _ _ _ q)⟩
section
variable {K : PySem.W.Frag} {F : Hp}
theorem sql_det {H : Hp} {a : Addr} {xs ys : List V} (h : H a = some (.lst xs)) (g : Rd H a (.lst ys)) : xs = ys := by
  rcases g with g | ⟨o, g⟩
  · rw [h] at g
    cases g
    rfl
  · rw [h] at g
    cases g
end
end DL
/-! DL, third part: what is walked, targets, loops, comprehensions. -/
namespace DL
open PySem PySem.Spec L2

section
variable {X : Cx} {tg : Expr} {e e2 : Expr} {pos : Pos}
theorem yl_list {K : PySem.W.Frag} {F : Hp} {a : Addr} {vs : List V} {xs : List PyData} (h : F a = some (.lst vs)) (d : DqA K F vs xs) : Yl K F (Itl K a) xs := fun F1 H1 e1 e2 i => by
  have hH : SqL K H1 a vs := SqL.of (e2 _ _ (e1 _ _ h))
  refine ⟨fun x hx => ?_, fun hl => ⟨vs, hH, by rw [d.length]; exact hl⟩⟩
  obtain ⟨v, a1, a2⟩ := d.get hx
  refine ⟨⟨vs, v, hH, a1⟩, fun u H2 q => ?_⟩
  obtain ⟨rfl, q⟩ := q
  have q2 := q vs hH
  rw [a1] at q2
  cases q2
  exact ⟨F1, Fresh.refl e2, a2.mono e1⟩
theorem yl_tup {K : PySem.W.Frag} {F : Hp} {a : Addr} {vs : List V} {xs : List PyData} (h : SqT K F a vs) (d : DqA K F vs xs) : Yl K F (Itt K a) xs := fun F1 H1 e1 e2 i => by
  have hH : SqT K H1 a vs := same_sqt e2 (same_sqt e1 h)
  refine ⟨fun x hx => ?_, fun hl => ⟨vs, hH, by rw [d.length]; exact hl⟩⟩
  obtain ⟨v, a1, a2⟩ := d.get hx
  refine ⟨⟨vs, v, hH, a1⟩, fun u H2 q => ?_⟩
  obtain ⟨rfl, q⟩ := q
  have q2 := q vs hH
  rw [a1] at q2
  cases q2
  exact ⟨F1, Fresh.refl e2, a2.mono e1⟩
/-- the signs of a text, each a text -/
def signsOf (z : Str) : List PyData := z.cps.toList.map fun c => .str ⟨#[c]⟩
theorem signsOf_len (z : Str) : (signsOf z).length = z.cps.size := by
  unfold signsOf
  rw [List.length_map, Array.length_toList]
theorem yl_str {K : PySem.W.Frag} {F : Hp} {z : Str} : Yl K F (Its z) (signsOf z) := fun F1 H1 e1 e2 i => by
  refine ⟨fun x hx => ?_, fun hl => by rw [signsOf_len] at hl; exact hl⟩
  have hi : i < z.cps.size := by rw [← signsOf_len]; exact (List.getElem?_eq_some_iff.mp hx).1
  refine ⟨hi, fun u H2 q => ?_⟩
  obtain ⟨rfl, c, hc, rfl⟩ := q
  have hx' : x = .str ⟨#[c]⟩ := by
    unfold signsOf at hx
    rw [List.getElem?_map, Array.getElem?_toList, hc] at hx
    cases hx
    rfl
  rw [hx']
  exact ⟨F1, Fresh.refl e2, .str _⟩
/-- ints from lo on -/
def rangeD (lo : Int) (n : Nat) : List PyData := (List.range n).map fun (i : Nat) => PyData.int (lo + (i : Int))
theorem rangeD_len (lo : Int) (n : Nat) : (rangeD lo n).length = n := by
  unfold rangeD
  rw [List.length_map, List.length_range]
theorem rangeD_get {lo : Int} {n i : Nat} {x : PyData} (h : (rangeD lo n)[i]? = some x) : i < n ∧ x = .int (lo + (i : Int)) := by
  have hi : i < n := by rw [← rangeD_len lo n]; exact (List.getElem?_eq_some_iff.mp h).1
  unfold rangeD at h
  rw [List.getElem?_map, List.getElem?_range hi] at h
  cases h
  exact ⟨hi, rfl⟩
theorem yl_range {K : PySem.W.Frag} {F : Hp} {lo : Int} {n : Nat} : Yl K F (Itr lo n) (rangeD lo n) := fun F1 H1 e1 e2 i => by
  refine ⟨fun x hx => ?_, fun hl => by rw [rangeD_len] at hl; exact hl⟩
  obtain ⟨hi, rfl⟩ := rangeD_get hx
  refine ⟨hi, fun u H2 q => ?_⟩
  obtain ⟨rfl, rfl⟩ := q
  exact ⟨F1, Fresh.refl e2, .int _⟩
def small62 (i : Int) : Prop := -(2 ^ 62) ≤ i ∧ i < 2 ^ 62
/-- a list, a tuple, a text, a range -/
def iAny (K : PySem.W.Frag) (tl : TE) : TI := fun σ H R => tl σ H fun x H1 => (∃ a, x = .ref a ∧ (∃ xs, SqL K H1 a xs) ∧ R (Itl K a) H1) ∨ (∃ a, x = .ref a ∧ (∃ xs, SqT K H1 a xs) ∧ R (Itt K a) H1) ∨ (∃ z, x = .str z ∧ R (Its z) H1) ∨ ∃ a lo hi, x = .ref a ∧ H1 a = some (.rng lo hi) ∧ (small62 lo ∧ small62 hi) ∧ R (Itr lo (hi - lo).toNat) H1
theorem pi_any {tl : TE} (hl : PE X e tl) : PI X tg e (iAny X.K tl) := by
  refine ⟨fun pins s σ H R I h => thn (hl.run pins s σ H _ I h) fun v s1 ⟨x, H1, J1, r1, q1⟩ => ?_⟩
  have fp1 : ∀ {b : Addr}, b ∈ [s1.heap.objs.size] → FpOk X pins H1 b := fun {b} hb => by
    rw [show b = s1.heap.objs.size by simpa using hb]
    exact J1.fpOk (Nat.le_refl _) (J1.hok.fresh (Nat.le_refl _))
  rcases q1 with ⟨a, rfl, ⟨xs, hq⟩, q⟩ | ⟨a, rfl, ⟨xs, hq⟩, q⟩ | ⟨z, rfl, q⟩ | ⟨a, lo, hi, rfl, ha, ⟨⟨h1, h2⟩, h3, h4⟩, q⟩
  · cases r1
    obtain ⟨its, rv, pl, hz⟩ := J1.list hq
    exact wpAny_pyIter_list pl.isList ⟨s1.heap.objs.size, [s1.heap.objs.size], _, Itl X.K a, H1, rfl, J1.kept (t' := s1.toks) (fun b o z => Heap.get?_push_of_some _ z), turn_list a s1.heap.objs.size, ⟨_, Heap.get?_push_size _ rfl, rfl, rfl⟩, fun b hb => fp1 hb, q⟩
  · cases r1
    obtain ⟨its, rv, pl, hz⟩ := J1.tuple hq
    exact wpAny_pyIter_tuple (show s1.heap.IsTuple a its.toArray from pl) ⟨s1.heap.objs.size, [s1.heap.objs.size], _, Itt X.K a, H1, rfl, J1.kept (t' := s1.toks) (fun b o z => Heap.get?_push_of_some _ z), turn_tuple a s1.heap.objs.size, ⟨_, Heap.get?_push_size _ rfl, rfl, rfl⟩, fun b hb => fp1 hb, q⟩
  · obtain ⟨t, rfl⟩ := r1
    cases hall : z.cps.all (· < 128)
    · exact wpAny_pyIter_wide hall (pi_one (tk := s1.toks) J1 _ (turn_str _ z t "str_iterator" (.inr rfl)) ⟨_, Heap.get?_push_size _ rfl, rfl, rfl⟩ q)
    · exact wpAny_pyIter_ascii hall (pi_one (tk := s1.toks) J1 _ (turn_str _ z t "str_ascii_iterator" (.inl rfl)) ⟨_, Heap.get?_push_size _ rfl, rfl, rfl⟩ q)
  · cases r1
    obtain ⟨t1, t2, t3, ho⟩ := J1.hok a _ ha
    refine wpAny_pyIter_range ho (small_one h1 h2 h3 h4) ⟨s1.heap.objs.size, [s1.heap.objs.size], _, Itr lo (hi - lo).toNat, H1, rfl, J1.kept (t' := s1.toks) (fun b o z => Heap.get?_push_of_some _ z), turn_range _ lo (hi - lo).toNat, ?_, fun b hb => fp1 hb, q⟩
    have e1 : lo + ((0 : Nat) : Int) * 1 = lo := by simp
    have e2 : (((hi - lo).toNat : Nat) : Int) - ((0 : Nat) : Int) = Builtin.Range.rangeSize lo hi 1 := by rw [rangeSize_one]; split <;> omega
    show IsRangeIter _ _ (lo + ((0 : Nat) : Int) * 1) ((((hi - lo).toNat : Nat) : Int) - ((0 : Nat) : Int)) 1
    rw [e1, e2]
    exact Heap.get?_push_size _ rfl
/-- the items of data -/
@[simp] def itP : PyData → (List PyData → Prop) → Prop
  | .list xs, k => k xs
  | .tuple xs, k => k xs
  | .str z, k => k (signsOf z)
  | .dict [(.int lo, .int hi)], k => (small62 lo ∧ small62 hi) ∧ k (rangeD lo (hi - lo).toNat)
  | _, _ => False
@[simp] def optP {α : Type} (o : Option α) (k : α → Prop) : Prop := match o with
  | some a => k a
  | none => False
@[simp] def wIt (w : DE) : DI := fun s Φ => w s fun x s1 => itP x fun xs => Φ xs s1
theorem xi_any {w : DE} (h : XE X e w) : XI X tg e (wIt w) := pi_imp (pi_any h) fun σ H R h => by
  obtain ⟨G, P, F, s, Φ, RR, h, k⟩ := h
  refine ⟨G, P, F, s, _, RR, h, fun v F1 H1 s1 x R1 e1 d1 q => ?_⟩
  match x, d1, q with
  | .list xs, .lst h1 h2, q => exact .inl ⟨_, rfl, ⟨_, SqL.of (R1.same _ _ h1)⟩, k _ F1 H1 s1 xs R1 e1 (yl_list h1 h2) q⟩
  | .tuple xs, .tup h1 h2, q => exact .inr (.inl ⟨_, rfl, ⟨_, same_sqt R1.same h1⟩, k _ F1 H1 s1 xs R1 e1 (yl_tup h1 h2) q⟩)
  | .str z, .str _, q => exact .inr (.inr (.inl ⟨_, rfl, k _ F1 H1 s1 (signsOf z) R1 e1 yl_str q⟩))
  | .dict [(.int lo, .int hi)], .rng h1, q => exact .inr (.inr (.inr ⟨_, lo, hi, rfl, R1.same _ _ h1, q.1, k _ F1 H1 s1 _ R1 e1 yl_range q.2⟩))
  | .dict [(.none, .int _)], .er a, q => exact q.elim
  | .dict [(.str _, .list _)], .xo _ _ _ _, q => exact q.elim
  | .dict [(.int _, .int _), (.none, .list _)], .ef _ _, q => exact q.elim
  | .dict [(.bool true, .list _), (.none, .list _)], .dk _ _, q => exact q.elim
def rangeC (lo c : Int) (n : Nat) : List PyData := (List.range n).map fun (i : Nat) => PyData.int (lo + (i : Int) * c)
theorem rangeC_len (lo c : Int) (n : Nat) : (rangeC lo c n).length = n := by
  unfold rangeC
  rw [List.length_map, List.length_range]
theorem yl_rangeC {K : PySem.W.Frag} {F : Hp} {lo c : Int} {n : Nat} : Yl K F (Itc lo c n) (rangeC lo c n) := fun F1 H1 e1 e2 i => by
  refine ⟨fun x hx => ?_, fun hl => by rw [rangeC_len] at hl; exact hl⟩
  have hi : i < n := by rw [← rangeC_len lo c n]; exact (List.getElem?_eq_some_iff.mp hx).1
  have hx' : x = .int (lo + (i : Int) * c) := by
    unfold rangeC at hx
    rw [List.getElem?_map, List.getElem?_range hi] at hx
    cases hx
    rfl
  refine ⟨hi, fun u H2 q => ?_⟩
  obtain ⟨rfl, rfl⟩ := q
  rw [hx']
  exact ⟨F1, Fresh.refl e2, .int _⟩
@[simp] def wRng1 (w : DA) : DI := fun s Φ => w s fun xs s1 => match xs with
  | [.int n] => small62 n ∧ Φ (rangeD 0 n.toNat) s1
  | _ => False
@[simp] def wRng2 (w : DA) : DI := fun s Φ => w s fun xs s1 => match xs with
  | [.int i, .int j] => (small62 i ∧ small62 j) ∧ Φ (rangeD i (j - i).toNat) s1
  | _ => False
/-- range(i, j, -1) -/
@[simp] def wRngDn (w : DA) : DI := fun s Φ => w s fun xs s1 => match xs with
  | [.int i, .int j, .int c] => c = -1 ∧ (small62 i ∧ small62 j) ∧ Φ (rangeC i (-1) (i - j).toNat) s1
  | _ => False
theorem xi_range1 {w : DA} {p : Pos} (hg : Gl X "range") (hm : X.mg "range" = none) (ha : XA X [e] w) (hs : starEach [e] X.env = [(false, eval e X.env)] := by rfl) : XI X tg (.Call (.Name "range" p) [e] [] pos) (wRng1 w) := pi_imp (pi_range1 hg hm ha hs) fun σ H R h => by
  obtain ⟨G, P, F, s, Φ, RR, h, k⟩ := h
  refine ⟨G, P, F, s, _, RR, h, fun vs F1 H1 s1 xs R1 e1 d1 q => ?_⟩
  match xs, d1, q with
  | [.int n], .cons (.int _) .nil, q => exact ⟨n, rfl, q.1.1, q.1.2, k _ F1 H1 s1 _ R1 e1 yl_range q.2⟩
theorem xi_range2 {w : DA} {p : Pos} (hg : Gl X "range") (hm : X.mg "range" = none) (ha : XA X [e, e2] w) (hs : starEach [e, e2] X.env = [(false, eval e X.env), (false, eval e2 X.env)] := by rfl) (hs2 : starEach [e2] X.env = [(false, eval e2 X.env)] := by rfl) :
    XI X tg (.Call (.Name "range" p) [e, e2] [] pos) (wRng2 w) := pi_imp (pi_range2 hg hm ha hs hs2) fun σ H R h => by
  obtain ⟨G, P, F, s, Φ, RR, h, k⟩ := h
  refine ⟨G, P, F, s, _, RR, h, fun vs F1 H1 s1 xs R1 e1 d1 q => ?_⟩
  match xs, d1, q with
  | [.int i, .int j], .cons (.int _) (.cons (.int _) .nil), q => exact ⟨i, j, rfl, ⟨q.1.1.1, q.1.1.2, q.1.2.1, q.1.2.2⟩, k _ F1 H1 s1 _ R1 e1 yl_range q.2⟩
theorem xi_rangeDn {e3 : Expr} {w : DA} {p : Pos} (hg : Gl X "range") (hm : X.mg "range" = none) (ha : XA X [e, e2, e3] w) (hs : starEach [e, e2, e3] X.env = (false, eval e X.env) :: starEach [e2, e3] X.env := by rfl) (hpl : (backTo pos (starEach [e2, e3] X.env)).any (·.1) = false := by rfl) :
    XI X tg (.Call (.Name "range" p) [e, e2, e3] [] pos) (wRngDn w) := pi_imp (pi_range3 hg hm ha hs hpl) fun σ H R h => by
  obtain ⟨G, P, F, s, Φ, RR, h, k⟩ := h
  refine ⟨G, P, F, s, _, RR, h, fun vs F1 H1 s1 xs R1 e1 d1 q => ?_⟩
  match xs, d1, q with
  | [.int i, .int j, .int c], .cons (.int _) (.cons (.int _) (.cons (.int _) .nil)), q =>
    obtain ⟨rfl, q⟩ := q
    exact ⟨i, j, -1, (i - j).toNat, rfl, RgC.neg q.1.1.1 q.1.1.2 q.1.2.1 q.1.2.2, k _ F1 H1 s1 _ R1 e1 yl_rangeC q.2⟩
/-- pairs with their places -/
def enumD (xs : List PyData) : List PyData := (List.range xs.length).map fun (i : Nat) => PyData.tuple [.int (i : Int), xs.getD i .none]
def zipD (xs ys : List PyData) : List PyData := (xs.zip ys).map fun p => .tuple [p.1, p.2]
theorem enumD_len (xs : List PyData) : (enumD xs).length = xs.length := by
  unfold enumD
  rw [List.length_map, List.length_range]
theorem enumD_get {xs : List PyData} {i : Nat} {x : PyData} (h : (enumD xs)[i]? = some x) : ∃ y, xs[i]? = some y ∧ x = .tuple [.int (i : Int), y] := by
  have hi : i < xs.length := by rw [← enumD_len xs]; exact (List.getElem?_eq_some_iff.mp h).1
  unfold enumD at h
  rw [List.getElem?_map, List.getElem?_range hi] at h
  refine ⟨xs[i], List.getElem?_eq_getElem hi, ?_⟩
  have e : xs.getD i .none = xs[i] := by
    rw [List.getD_eq_getElem?_getD, List.getElem?_eq_getElem hi]
    rfl
  rw [Option.map_some, e] at h
  exact (Option.some.inj h).symm
theorem yl_enum {K : PySem.W.Frag} {F : Hp} {a : Addr} {vs : List V} {xs : List PyData} (h : F a = some (.lst vs)) (d : DqA K F vs xs) : Yl K F (Ite K a) (enumD xs) := fun F1 H1 e1 e2 i => by
  have hH : SqL K H1 a vs := SqL.of (e2 _ _ (e1 _ _ h))
  refine ⟨fun x hx => ?_, fun hl => ⟨vs, hH, by rw [d.length]; rw [enumD_len] at hl; exact hl⟩⟩
  obtain ⟨y, hy, rfl⟩ := enumD_get hx
  obtain ⟨v, a1, a2⟩ := d.get hy
  refine ⟨⟨vs, v, hH, a1⟩, fun u H2 q => ?_⟩
  obtain ⟨T, x, rfl, nT, rfl, q⟩ := q
  have q2 := q vs hH
  rw [a1] at q2
  cases q2
  have f := Fresh.new (o := .tup [.int (i : Nat), v]) e2 nT
  exact ⟨_, f, .tup (SqT.of upd_same) (.cons (.int _) (.cons ((a2.mono e1).mono f.ff) .nil))⟩
theorem zipD_get {xs ys : List PyData} {i : Nat} {x : PyData} (h : (zipD xs ys)[i]? = some x) : ∃ y z, xs[i]? = some y ∧ ys[i]? = some z ∧ x = .tuple [y, z] := by
  unfold zipD at h
  rw [List.getElem?_map] at h
  cases e : (xs.zip ys)[i]? with
  | none =>
    rw [e] at h
    cases h
  | some p =>
    rw [e] at h
    cases h
    obtain ⟨y, z⟩ := p
    obtain ⟨h1, h2⟩ := List.getElem?_zip_eq_some.mp e
    exact ⟨y, z, h1, h2, rfl⟩
theorem yl_zip {K : PySem.W.Frag} {F : Hp} {a b : Addr} {vs us : List V} {xs ys : List PyData} (h : F a = some (.lst vs)) (d : DqA K F vs xs) (g : F b = some (.lst us)) (d' : DqA K F us ys) : Yl K F (Itz K a b) (zipD xs ys) := fun F1 H1 e1 e2 i => by
  have hH : SqL K H1 a vs := SqL.of (e2 _ _ (e1 _ _ h))
  have gH : SqL K H1 b us := SqL.of (e2 _ _ (e1 _ _ g))
  refine ⟨fun x hx => ?_, fun hl => ⟨vs, us, hH, gH, ?_⟩⟩
  · obtain ⟨y, z, hy, hz, rfl⟩ := zipD_get hx
    obtain ⟨v, a1, a2⟩ := d.get hy
    obtain ⟨u, b1, b2⟩ := d'.get hz
    refine ⟨⟨vs, us, v, u, hH, gH, a1, b1⟩, fun w H2 q => ?_⟩
    obtain ⟨T, x, y', rfl, nT, rfl, q, q'⟩ := q
    have q2 := q vs hH
    rw [a1] at q2
    cases q2
    have q3 := q' us gH
    rw [b1] at q3
    cases q3
    have f := Fresh.new (o := .tup [v, u]) e2 nT
    exact ⟨_, f, .tup (SqT.of upd_same) (.cons ((a2.mono e1).mono f.ff) (.cons ((b2.mono e1).mono f.ff) .nil))⟩
  · unfold zipD at hl
    rw [List.length_map, List.length_zip] at hl
    rw [d.length, d'.length]
    omega
@[simp] def wEnum (w : DA) : DI := fun s Φ => w s fun xs s1 => match xs with
  | [.list xs] => Φ (enumD xs) s1
  | _ => False
@[simp] def wZip (w : DA) : DI := fun s Φ => w s fun xs s1 => match xs with
  | [.list xs, .list ys] => Φ (zipD xs ys) s1
  | _ => False
theorem xi_enum {elts : List Expr} {kk : Nat} {w : DA} {p tpos : Pos} (hg : Gl X "enumerate") (hm : X.mg "enumerate" = none) (ha : XA X [e] w) (hs : starEach [e] X.env = [(false, eval e X.env)] := by rfl) :
    XI X (.Tuple elts kk tpos) (.Call (.Name "enumerate" p) [e] [] pos) (wEnum w) := pi_imp (pi_enum hg hm ha hs) fun σ H R h => by
  obtain ⟨G, P, F, s, Φ, RR, h, k⟩ := h
  refine ⟨G, P, F, s, _, RR, h, fun vs F1 H1 s1 xs R1 e1 d1 q => ?_⟩
  match xs, d1, q with
  | [.list xs], .cons (.lst h1 h2) .nil, q => exact ⟨_, _, rfl, SqL.of (R1.same _ _ h1), k _ F1 H1 s1 _ R1 e1 (yl_enum h1 h2) q⟩
theorem xi_zip {elts : List Expr} {kk : Nat} {w : DA} {p tpos : Pos} (hg : Gl X "zip") (hm : X.mg "zip" = none) (ha : XA X [e, e2] w) (hs : starEach [e, e2] X.env = (false, eval e X.env) :: starEach [e2] X.env := by rfl) (hpl : (backTo pos (starEach [e2] X.env)).any (·.1) = false := by rfl) :
    XI X (.Tuple elts kk tpos) (.Call (.Name "zip" p) [e, e2] [] pos) (wZip w) := pi_imp (pi_zip hg hm ha hs hpl) fun σ H R h => by
  obtain ⟨G, P, F, s, Φ, RR, h, k⟩ := h
  refine ⟨G, P, F, s, _, RR, h, fun vs F1 H1 s1 xs R1 e1 d1 q => ?_⟩
  match xs, d1, q with
  | [.list xs, .list ys], .cons (.lst h1 h2) (.cons (.lst h3 h4) .nil), q => exact ⟨_, _, _, _, rfl, SqL.of (R1.same _ _ h1), SqL.of (R1.same _ _ h3), k _ F1 H1 s1 _ R1 e1 (yl_zip h1 h2 h3 h4) q⟩
end

/-! ### targets -/
abbrev DG := PyData → S → (S → Prop) → Prop
/-- is: the slots that are stored -/
def tG (K : PySem.W.Frag) (is : List Nat) (w : DG) : TG := fun v σ H Q => ∃ G P F s x Φ, Rep K G P F H σ s ∧ Dq K F v x ∧ w x s Φ ∧
  ∀ σ' s', Rep K G P F H σ' s' → (∀ i, i ∉ is → σ'[i]? = σ[i]?) → σ'.length = σ.length → Φ s' → Q σ' H
def tGs (K : PySem.W.Frag) (is : List Nat) (w : List PyData → S → (S → Prop) → Prop) : TGs := fun vs σ H Q => ∃ G P F s xs Φ, Rep K G P F H σ s ∧ DqA K F vs xs ∧ w xs s Φ ∧
  ∀ σ' s', Rep K G P F H σ' s' → (∀ i, i ∉ is → σ'[i]? = σ[i]?) → σ'.length = σ.length → Φ s' → Q σ' H
abbrev XG (X : Cx) (tg : Expr) (is : List Nat) (w : DG) : Prop := PG X tg (tG X.K is w)
abbrev XGs (X : Cx) (tgs : List Expr) (is : List Nat) (w : List PyData → S → (S → Prop) → Prop) : Prop := PGs X tgs (tGs X.K is w)
section
variable {X : Cx} {pos : Pos}
theorem pg_imp {tg : Expr} {t t' : TG} (h : PG X tg t) (i : ∀ v σ H Q, t' v σ H Q → t v σ H Q) : PG X tg t' := ⟨fun pins s σ H v u Q I r q => h.run pins s σ H v u Q I r (i _ _ _ _ q)⟩
theorem pgs_imp {tg : List Expr} {t t' : TGs} (h : PGs X tg t) (i : ∀ v σ H Q, t' v σ H Q → t v σ H Q) : PGs X tg t' := ⟨fun pins s σ H v u Q I r q => h.run pins s σ H v u Q I r (i _ _ _ _ q)⟩
@[simp] def gNm (i : Nat) : DG := fun x s Φ => Φ (s.put i (.d x))
theorem xg_name {i : Nat} {x : Str} (hN : X.N.Nodup) (hi : X.N[i]? = some x) (hx : Loc X.env.scope x) (hf : X.fn x = true ∨ X.env.scope.names.lookup x = some .local := by first | exact .inl rfl | exact .inr rfl | assumption) : XG X (.Name x pos) [i] (gNm i) :=
  pg_imp (pg_name hN hi hx hf) fun v σ H Q h => by
    obtain ⟨G, P, F, s, x, Φ, R, d, h, k⟩ := h
    refine k _ _ (R.setD d) (fun j hj => ?_) List.length_set h
    rw [List.getElem?_set_ne]
    exact fun z => hj (by simp [z])
@[simp] def gNl : List PyData → S → (S → Prop) → Prop := fun xs s Φ => xs = [] ∧ Φ s
@[simp] def gCs (w : DG) (u : List PyData → S → (S → Prop) → Prop) : List PyData → S → (S → Prop) → Prop := fun xs s Φ => match xs with
  | x :: r => w x s fun s1 => u r s1 Φ
  | [] => False
theorem xgs_nil : XGs X [] [] gNl := pgs_imp pgs_nil fun vs σ H Q h => by
  obtain ⟨G, P, F, s, xs, Φ, R, d, ⟨rfl, h⟩, k⟩ := h
  cases d
  exact ⟨rfl, k σ s R (fun _ _ => rfl) rfl h⟩
theorem xgs_cons {e : Expr} {es : List Expr} {is js : List Nat} {w : DG} {u : List PyData → S → (S → Prop) → Prop} (h1 : XG X e is w) (h2 : XGs X es js u)
    (hs : (assignEach (e :: es) X.env).map (·.2) = assign e X.env :: (assignEach es X.env).map (·.2) := by rfl) : XGs X (e :: es) (is ++ js) (gCs w u) := pgs_imp (pgs_cons h1 h2 hs) fun vs σ H Q h => by
  obtain ⟨G, P, F, s, xs, Φ, R, d, h, k⟩ := h
  cases xs with
  | nil => exact h.elim
  | cons x r =>
    cases d with
    | cons d1 d2 =>
      refine ⟨_, _, rfl, G, P, F, s, x, _, R, d1, h, fun σ1 s1 R1 q1 l1 h1 => ⟨G, P, F, s1, r, Φ, R1, d2, h1, fun σ2 s2 R2 q2 l2 h2 => k σ2 s2 R2 (fun i hi => ?_) (l2.trans l1) h2⟩⟩
      rw [q2 i (fun z => hi (List.mem_append_right _ z)), q1 i (fun z => hi (List.mem_append_left _ z))]
end
end DL
/-! DL, fourth part: targets of tuples, loops, comprehensions. -/
namespace DL
open PySem PySem.Spec L2

section
variable {X : Cx} {pos : Pos}
@[simp] def gTp (n : Nat) (w : List PyData → S → (S → Prop) → Prop) : DG := fun x s Φ => match x with
  | .tuple xs => xs.length = n ∧ w xs s Φ
  | _ => False
theorem xg_tup {es : List Expr} {k n : Nat} {is : List Nat} {w : List PyData → S → (S → Prop) → Prop} (hc : X.calm = true) (h : XGs X es is w) (hn : (assignEach es X.env).length = n := by rfl) (hst : (assignEach es X.env).findIdx? (·.1) = none := by rfl) :
    XG X (.Tuple es k pos) is (gTp n w) := pg_imp (pg_tup hc h hn hst) fun v σ H Q h => by
  obtain ⟨G, P, F, s, x, Φ, R, d, h, k⟩ := h
  cases x with
  | tuple xs =>
    cases d with
    | tup h1 h2 => exact ⟨_, _, rfl, same_sqt R.same h1, by rw [h2.length]; exact h.1, G, P, F, s, xs, Φ, R, h2, h.2, k⟩
  | _ => exact h.elim
/-- a, b = e -/
@[simp] def wAsgT (w : DE) (wg : DG) : DS := fun Φ s => w s fun x s1 => wg x s1 Φ.nx
theorem xs_asgT {tg e : Expr} {is : List Nat} {w : DE} {wg : DG} (he : XE X e w) (hg : XG X tg is wg) (hs : swapsWithSole [tg] e pos.line X.env = pure false := by rfl) (hw : swappedStores [tg] e X.env = pure none := by rfl)
    (h1 : (assignEach [tg] X.env).map (·.2) = [assign tg X.env] := by rfl) : XS X (.Assign [tg] e pos) (wAsgT w wg) :=
  ps_imp (ps_asg he hg hs hw h1) fun D σ H h => by
    obtain ⟨G, P, F, s, Φ, R, h, b⟩ := h
    exact ⟨G, P, F, s, _, R, h, fun v F' H' s' x R' e d q => ⟨G, P, F', s', x, _, R', d, q, fun σ2 s2 R2 _ _ q2 => b.nx σ2 F' H' s2 R2 e q2⟩⟩
/-- a, b = e1, e2, both plain names -/
@[simp] def wPar (i j : Nat) (w : DA) : DS := fun Φ s => w s fun xs s1 => match xs with
  | [x, y] => Φ.nx ((s1.put i (.d x)).put j (.d y))
  | _ => False
theorem xs_par {i j : Nat} {x y : Str} {a b : Expr} {w : DA} {px py pt : Pos} {kt k2 : Nat} {pt2 : Pos} (hc : X.calm = true) (hN : X.N.Nodup) (hi : X.N[i]? = some x) (hj : X.N[j]? = some y) (hij : i ≠ j)
    (hx : X.env.scope.names.lookup x = some .local) (hy : X.env.scope.names.lookup y = some .local) (ha : XA X [a, b] w)
    (hw : swappedStores [.Tuple [.Name x px, .Name y py] kt pt] (.Tuple [a, b] k2 pt2) X.env = pure (some [x, y]))
    (hsole : swapsWithSole [.Tuple [.Name x px, .Name y py] kt pt] (.Tuple [a, b] k2 pt2) pos.line X.env = pure false := by rfl) : XS X (.Assign [.Tuple [.Name x px, .Name y py] kt pt] (.Tuple [a, b] k2 pt2) pos) (wPar i j w) :=
  ps_imp (ps_par hc hN hi hj hij hx hy ha hw hsole) fun D σ H h => by
    obtain ⟨G, P, F, s, Φ, R, h, b⟩ := h
    refine ⟨G, P, F, s, _, R, h, fun vs F' H' s' xs R' e d q => ?_⟩
    match xs, d, q with
    | [x, y], .cons d1 (.cons d2 .nil), q => exact ⟨_, _, rfl, b.nx _ F' H' _ ((R'.setD d1).setD d2) e q⟩

/-! loops -/
def loopW (wg : DG) (wb : DS) (Φ : EN) : List PyData → S → Prop
  | [], s => Φ.nx s
  | x :: xs, s => wg x s fun s1 => wb { nx := loopW wg wb Φ xs, rt := Φ.rt, bk := Φ.nx, ct := loopW wg wb Φ xs, rl := Φ.rl, ex := Φ.ex } s1
@[simp] def wFor (wi : DI) (wg : DG) (wb : DS) : DS := fun Φ s => wi s fun xs s1 => loopW wg wb Φ xs s1
theorem xs_for {tg iter : Expr} {body : List Stmt} {is : List Nat} {wi : DI} {wg : DG} {wb : DS} (hp : PassesOwn (model X.prog X.w) X.A X.env X.xe) (hc : X.calm = true) (hi : XI X tg iter wi) (hg : XG X tg is wg) (hb : XSs X body wb)
    (hs : ∀ x, foldedSetIterable iter X.env x = pure x := by intro _; rfl) : XS X (.For tg iter body [] pos) (wFor wi wg wb) := ps_imp (ps_for hp hc hi hg hb hs) fun D σ H h => by
  obtain ⟨G, P, F, s, Φ, R, h, b⟩ := h
  refine ⟨G, P, F, s, _, R, h, fun J F1 H1 s1 xs R1 e1 Y q => ?_⟩
  refine ⟨fun i m σ2 H2 => m = xs.length - i ∧ i ≤ xs.length ∧ ∃ F2 s2, Rep X.K G P F2 H2 σ2 s2 ∧ Same F1 F2 ∧ loopW wg wb Φ (xs.drop i) s2, ⟨_, rfl, Nat.zero_le _, F1, s1, R1, Same.refl F1, by simpa using q⟩, ?_⟩
  rintro i m σ2 H2 ⟨rfl, hi, F2, s2, R2, e2, q2⟩
  by_cases hl : i < xs.length
  · obtain ⟨go, yl⟩ := (Y F2 H2 e2 R2.same i).1 xs[i] (List.getElem?_eq_getElem hl)
    refine .inr ⟨go, fun σ3 H3 => ∃ F3 s3, Rep X.K G P F3 H3 σ3 s3 ∧ Same F1 F3 ∧ loopW wg wb Φ (xs.drop (i + 1)) s3, fun σ3 H3 ⟨F3, s3, R3, e3, q3⟩ => ⟨xs.length - (i + 1), by omega, rfl, hl, F3, s3, R3, e3, q3⟩, fun v H3 hy => ?_⟩
    obtain ⟨F3, f, dx⟩ := yl v H3 hy
    rw [List.drop_eq_getElem_cons hl] at q2
    refine ⟨G, P, F3, s2, xs[i], _, R2.fresh f, dx, q2, fun σ4 s4 R4 _ _ q4 => ?_⟩
    have e13 : Same F1 F3 := e2.trans f.ff
    exact ⟨G, P, F3, s4, _, R4, q4, ⟨fun σ5 F5 H5 s5 R5 e5 q5 => ⟨F5, s5, R5, e13.trans e5, q5⟩, fun v5 σ5 F5 H5 s5 x5 R5 e5 d5 q5 => b.rt v5 σ5 F5 H5 s5 x5 R5 ((e1.trans e13).trans e5) d5 q5,
      fun σ5 F5 H5 s5 R5 e5 q5 => b.nx σ5 F5 H5 s5 R5 ((e1.trans e13).trans e5) q5, fun σ5 F5 H5 s5 R5 e5 q5 => ⟨F5, s5, R5, e13.trans e5, q5⟩, fun p5 vs5 σ5 F5 H5 s5 xs5 R5 e5 n5 h5 d5 q5 => b.rl p5 vs5 σ5 F5 H5 s5 xs5 R5 ((e1.trans e13).trans e5) n5 h5 d5 q5, fun c5 x5 σ5 F5 H5 s5 R5 e5 q5 => b.ex c5 x5 σ5 F5 H5 s5 R5 ((e1.trans e13).trans e5) q5⟩⟩
  · refine .inl ⟨(Y F2 H2 e2 R2.same i).2 (by omega), ?_⟩
    rw [List.drop_eq_nil_of_le (by omega)] at q2
    exact b.nx σ2 F2 H2 s2 R2 (e1.trans e2) q2
def whN (wt : DT) (wb : DS) (Φ : EN) : Nat → S → Prop
  | 0, _ => False
  | n + 1, s => wt s fun b s1 => if b = true then wb { nx := whN wt wb Φ n, rt := Φ.rt, bk := Φ.nx, ct := whN wt wb Φ n, rl := Φ.rl, ex := Φ.ex } s1 else Φ.nx s1
def wWhile (wt : DT) (wb : DS) : DS := fun Φ s => ∃ n, whN wt wb Φ n s
theorem xs_while {c : Expr} {body : List Stmt} {wt : DT} {wb : DS} (hp : PassesOwn (model X.prog X.w) X.A X.env X.xe) (hc : XT X c wt) (hb : XSs X body wb) : XS X (.While c body [] pos) (wWhile wt wb) := ps_imp (ps_while hp hc hb) fun D σ H h => by
  obtain ⟨G, P, F, s, Φ, R, ⟨n, h⟩, b⟩ := h
  refine ⟨fun m σ2 H2 => ∃ F2 s2, Rep X.K G P F2 H2 σ2 s2 ∧ Same F F2 ∧ whN wt wb Φ m s2, ⟨n, F, s, R, Same.refl F, h⟩, ?_⟩
  rintro m σ2 H2 ⟨F2, s2, R2, e2, q2⟩
  cases m with
  | zero => exact q2.elim
  | succ m =>
    refine ⟨G, P, F2, s2, _, R2, q2, fun k F3 H3 s3 R3 e3 q3 => ?_⟩
    cases k with
    | true =>
      rw [if_pos rfl] at q3 ⊢
      refine ⟨fun σ4 H4 => ∃ F4 s4, Rep X.K G P F4 H4 σ4 s4 ∧ Same F F4 ∧ whN wt wb Φ m s4, fun σ4 H4 z => ⟨m, Nat.lt_succ_self m, z⟩, G, P, F3, s3, _, R3, q3, ?_⟩
      have e13 : Same F F3 := e2.trans e3
      exact ⟨fun σ5 F5 H5 s5 R5 e5 q5 => ⟨F5, s5, R5, e13.trans e5, q5⟩, fun v5 σ5 F5 H5 s5 x5 R5 e5 d5 q5 => b.rt v5 σ5 F5 H5 s5 x5 R5 (e13.trans e5) d5 q5, fun σ5 F5 H5 s5 R5 e5 q5 => b.nx σ5 F5 H5 s5 R5 (e13.trans e5) q5,
        fun σ5 F5 H5 s5 R5 e5 q5 => ⟨F5, s5, R5, e13.trans e5, q5⟩, fun p5 vs5 σ5 F5 H5 s5 xs5 R5 e5 n5 h5 d5 q5 => b.rl p5 vs5 σ5 F5 H5 s5 xs5 R5 (e13.trans e5) n5 h5 d5 q5, fun c5 x5 σ5 F5 H5 s5 R5 e5 q5 => b.ex c5 x5 σ5 F5 H5 s5 R5 (e13.trans e5) q5⟩
    | false =>
      rw [if_neg Bool.false_ne_true] at q3 ⊢
      exact b.nx σ2 F3 H3 s3 R3 (e2.trans e3) q3
end

/-! ### comprehensions -/
@[simp] def noOwn (vs : List Nat) (e : List Sl) : Bool := vs.all fun i => match e[i]? with
  | some (.o _) => false
  | some (.tb _ _ _) => false
  | _ => true
theorem noOwn_tb {vs : List Nat} {e : List Sl} (h : (vs.all fun i => match e[i]? with
  | some (.o _) => false
  | some (.tb _ _ _) => false
  | _ => true) = true) {i : Nat} (hi : i ∈ vs) {p : Addr} {qs : List Addr} {xs : List (List PyData)} (q : e[i]? = some (.tb p qs xs)) : False := by
  have z := List.all_eq_true.mp h i hi
  rw [q] at z
  cases z
theorem noOwn_at {vs : List Nat} {e : List Sl} (h : noOwn vs e = true) {i : Nat} (hi : i ∈ vs) {xs : List PyData} (q : e[i]? = some (.o xs)) : False := by
  have z := List.all_eq_true.mp h i hi
  rw [q] at z
  cases z
@[simp] def wipeE (e : List Sl) : List Nat → List Sl
  | [] => e
  | v :: vs => (wipeE e vs).set v .un
theorem wipeE_len (e : List Sl) : ∀ vs, (wipeE e vs).length = e.length
  | [] => rfl
  | v :: vs => by
    show ((wipeE e vs).set v .un).length = e.length
    rw [List.length_set, wipeE_len e vs]
theorem wipeE_out {e : List Sl} {i : Nat} : ∀ {vs : List Nat}, i ∉ vs → (wipeE e vs)[i]? = e[i]?
  | [], _ => rfl
  | v :: vs, h => by
    show ((wipeE e vs).set v .un)[i]? = e[i]?
    rw [List.getElem?_set_ne (fun z => h (by simp [z])), wipeE_out (fun z => h (List.mem_cons_of_mem _ z))]
theorem wipeE_in {e : List Sl} {i : Nat} {x : Sl} : ∀ {vs : List Nat}, i ∈ vs → (wipeE e vs)[i]? = some x → x = .un
  | [], h, _ => by cases h
  | v :: vs, h, q => by
    have q' : ((wipeE e vs).set v .un)[i]? = some x := q
    rcases set_get q' with ⟨_, z⟩ | ⟨ne, z⟩
    · exact z
    · rcases List.mem_cons.mp h with z2 | z2
      · exact absurd z2 ne
      · exact wipeE_in z2 z
theorem wipe_in {σ : L2.St} {i : Nat} : ∀ {vs : List Nat}, i ∈ vs → i < σ.length → (wipe σ vs)[i]? = some none
  | [], h, _ => by cases h
  | v :: vs, h, hl => by
    show ((wipe σ vs).set v none)[i]? = some none
    by_cases e : v = i
    · rw [e, List.getElem?_set_self (by rw [wipe_length]; exact hl)]
    · rw [List.getElem?_set_ne e]
      rcases List.mem_cons.mp h with z | z
      · exact absurd z.symm e
      · exact wipe_in z hl
theorem wipe_off {σ : L2.St} {i : Nat} : ∀ {vs : List Nat}, i ∉ vs → (wipe σ vs)[i]? = σ[i]?
  | [], _ => rfl
  | v :: vs, h => by
    show ((wipe σ vs).set v none)[i]? = σ[i]?
    rw [List.getElem?_set_ne (fun z => h (by simp [z])), wipe_off (fun z => h (List.mem_cons_of_mem _ z))]
theorem wipe_same {σ τ : L2.St} {vs : List Nat} (hl : τ.length = σ.length) (h : ∀ i, i ∉ vs → τ[i]? = σ[i]?) : wipe τ vs = wipe σ vs := by
  refine List.ext_getElem? fun i => ?_
  by_cases hi : i ∈ vs
  · by_cases hb : i < σ.length
    · rw [wipe_in hi hb, wipe_in hi (by rw [hl]; exact hb)]
    · rw [List.getElem?_eq_none (by rw [wipe_length, hl]; omega), List.getElem?_eq_none (by rw [wipe_length]; omega)]
  · rw [wipe_off hi, wipe_off hi, h i hi]
def lcW (vs : List Nat) (e0 : List Sl) (wg : DG) (wt : DT) (we : DE) (Φ : List PyData → List Int → Prop) : List PyData → List PyData → List Int → Prop
  | [], acc, q => Φ acc q
  | x :: xs, acc, q => wg x ⟨wipeE e0 vs, q⟩ fun s1 => wipeE s1.e vs = wipeE e0 vs ∧ wt s1 fun b s2 => s2.e = s1.e ∧
    (if b = true then we s2 fun y s3 => s3.e = s1.e ∧ acc.length < sizeLine ∧ lcW vs e0 wg wt we Φ xs (acc ++ [y]) s3.q else lcW vs e0 wg wt we Φ xs acc s2.q)
@[simp] def wLc (vs : List Nat) (wi : DI) (wg : DG) (wt : DT) (we : DE) : DA := fun s Φ => wi s fun xs s1 => noOwn vs s1.e = true ∧ lcW vs s1.e wg wt we (fun ys q => Φ ys ⟨s1.e, q⟩) xs [] s1.q
/-- tests of a comprehension -/
abbrev XTs (X : Cx) (ifs : List Expr) (w : DT) : Prop := PTs X ifs (tT X.K w)
@[simp] def wYes : DT := fun s Φ => Φ true s
section
variable {X : Cx} {pos : Pos}
theorem pts_imp {ifs : List Expr} {t t' : TT} (h : PTs X ifs t) (i : ∀ σ H Q, t' σ H Q → t σ H Q) : PTs X ifs t' := ⟨fun pins s σ H Q I q => h.run pins s σ H Q I (i _ _ _ q)⟩
theorem xts_nil : XTs X [] wYes := pts_imp pts_nil fun σ H Q h => by
  obtain ⟨G, P, F, s, Φ, R, h, k⟩ := h
  exact k true F H s R (Same.refl F) h
theorem xts_one {c : Expr} {w : DT} (h : XT X c w) : XTs X [c] w := pts_one h
section
variable {K : PySem.W.Frag} {G F H F' H' : Hp} {P : Option Addr} {σ τ : L2.St} {s : S} {vs : List Nat} {D : Addr} {acc : List V}
/-- into the block -/
theorem Rep.block {o : HO} (R : Rep K G P F H σ s) (n : Nu G P F σ s D) (hD : H D = some o) : Rep K (upd G D o) P F H (wipe σ vs) ⟨wipeE s.e vs, s.q⟩ := by
  have tG : TabsAt K (upd G D o) ∧ Tk F H := ⟨R.tab.1.updN n.g, R.tab.2⟩
  refine ⟨R.same, R.keep.updG hD, fun b o q => ?_, fun i x hx => ?_, fun i j xs ys p hi hj e1 e2 => ?_, fun a ha => ?_, ?_, fun i j x y r hi hj hr ij oc => ?_, tG⟩
  · by_cases hb : b = D
    · rw [hb]
      exact n.f
    · rw [upd_ne hb] at q
      exact R.apart b o q
  · have hx : (wipeE s.e vs)[i]? = some x := hx
    by_cases hi : i ∈ vs
    · rw [wipeE_in hi hx]
      exact True.intro
    · rw [wipeE_out hi] at hx
      have q := R.sl i x hx
      cases x with
      | un => exact True.intro
      | d x =>
        obtain ⟨v, a, b⟩ := q
        exact ⟨v, by rw [wipe_off hi]; exact a, b⟩
      | o xs =>
        obtain ⟨p, us, h1, h2, h3, h4, h5, h6⟩ := q
        have np : p ≠ D := fun z => n.sl i xs hx (by rw [← z]; exact h1)
        exact ⟨p, us, by rw [wipe_off hi]; exact h1, h2, by rw [upd_ne np]; exact h3, h4, h5, h6⟩
      | pl =>
        obtain ⟨a, h1, h2⟩ := q
        exact ⟨a, h1, by rw [wipe_off hi]; exact h2⟩
      | sc ns =>
        obtain ⟨a, h1, h2⟩ := q
        exact ⟨a, by rw [wipe_off hi]; exact h1, h2⟩
      | tb p qs xss => exact q.tbUp (wipe_off hi) (Same.refl F) fun r o hr g1 g2 g3 g4 => ⟨g1, by rw [upd_ne (fun z => n.tb i _ hx (by rw [← z]; exact hr))]; exact g2, g3, g4⟩
  · have hi' : (wipeE s.e vs)[i]? = some (.o xs) := hi
    have hj' : (wipeE s.e vs)[j]? = some (.o ys) := hj
    have ni : i ∉ vs := fun z => by
      have := wipeE_in z hi'
      cases this
    have nj : j ∉ vs := fun z => by
      have := wipeE_in z hj'
      cases this
    rw [wipeE_out ni] at hi'
    rw [wipeE_out nj] at hj'
    rw [wipe_off ni] at e1
    rw [wipe_off nj] at e2
    exact R.sep i j xs ys p hi' hj' e1 e2
  · obtain ⟨g1, g2, g3⟩ := R.pool a ha
    exact ⟨g1, by rw [upd_ne (fun z => n.np (by rw [← z]; exact ha))]; exact g2, g3⟩
  · show (wipe σ vs).length = (wipeE s.e vs).length
    rw [wipe_length, wipeE_len, R.len]
  · have hi : (wipeE s.e vs)[i]? = some x := hi
    have hj : (wipeE s.e vs)[j]? = some y := hj
    have ni : i ∉ vs := fun z => by
      have := wipeE_in z hi
      subst this
      cases hr
    rw [wipeE_out ni] at hi
    by_cases nj : j ∈ vs
    · have := wipeE_in nj hj
      subst this
      rcases oc with z | ⟨⟨_, z⟩, _⟩
      · cases z
      · cases z
    · rw [wipeE_out nj] at hj
      refine R.tbs i j x y r hi hj hr ij ?_
      rcases oc with z | ⟨z, z2⟩
      · exact .inl z
      · rw [wipe_off nj] at z2
        exact .inr ⟨z, z2⟩
/-- out of the block, the new list longer (or not) -/
theorem Rep.unblockO {o o' : HO} {s2 : S} (R : Rep K G P F H σ s) (n : Nu G P F σ s D) (hno : noOwn vs s.e = true) (e : Same F F') (R2 : Rep K (upd G D o) P F' H' τ s2) (he : wipeE s2.e vs = wipeE s.e vs) (hτ : ∀ i, i ∉ vs → τ[i]? = σ[i]?) (t : isTb o = false := by rfl) (t' : isTb o' = false := by rfl) :
    Rep K G P F' (upd H' D o') σ ⟨s.e, s2.q⟩ ∧ Nu G P F' σ ⟨s.e, s2.q⟩ D ∧ H' D = some o := by
  have hD : H' D = some o := R2.keep.go upd_same t
  have fD : F' D = none := R2.apart D _ upd_same
  refine ⟨⟨fun b o q => ?_, fun b o q => ?_, fun b o q => ?_, fun i x hx => ?_, R.sep, fun a ha => ?_, R.len, R.tbs, ⟨R.tab.1, R2.tab.2.updH t'⟩⟩, ⟨fD, n.g, n.np, n.sl, n.tb⟩, hD⟩
  · rw [upd_ne (fun z => by rw [z, fD] at q; cases q)]
    exact R2.same b o q
  · have nb : b ≠ D := fun z => by
      rw [z, n.g] at q
      cases q
    rw [upd_ne nb]
    exact R2.keep b o (by rw [upd_ne nb]; exact q)
  · have nb : b ≠ D := fun z => by
      rw [z, n.g] at q
      cases q
    exact R2.apart b o (by rw [upd_ne nb]; exact q)
  · have hx : s.e[i]? = some x := hx
    by_cases hi : i ∈ vs
    · have q := R.sl i x hx
      cases x with
      | un => exact True.intro
      | d x =>
        obtain ⟨v, a, b⟩ := q
        exact ⟨v, a, b.mono e⟩
      | o xs => exact (noOwn_at hno hi hx).elim
      | pl => exact q
      | sc ns =>
        obtain ⟨a, h1, h2⟩ := q
        exact ⟨a, h1, e.seq h2⟩
      | tb p qs xss => exact (noOwn_tb hno hi hx).elim
    · have hx2 : s2.e[i]? = some x := by rw [← wipeE_out hi, he, wipeE_out hi]; exact hx
      have q := R2.sl i x hx2
      cases x with
      | un => exact True.intro
      | d x =>
        obtain ⟨v, a, b⟩ := q
        exact ⟨v, by rw [← hτ i hi]; exact a, b⟩
      | o xs =>
        obtain ⟨p, us, h1, h2, h3, h4, h5, h6⟩ := q
        have np : p ≠ D := fun z => by
          rw [z, upd_same] at h3
          cases h3
        exact ⟨p, us, by rw [← hτ i hi]; exact h1, h2, by rw [upd_ne np] at h3; exact h3, h4, by rw [upd_ne np]; exact h5, h6⟩
      | pl =>
        obtain ⟨a, h1, h2⟩ := q
        exact ⟨a, h1, by rw [← hτ i hi]; exact h2⟩
      | sc ns =>
        obtain ⟨a, h1, h2⟩ := q
        exact ⟨a, by rw [← hτ i hi]; exact h1, h2⟩
      | tb p qs xss =>
        refine q.tbUp (by rw [hτ i hi]) (Same.refl F') fun r o hr g1 g2 g3 g4 => ?_
        have nr : r ≠ D := fun z => n.tb i _ hx (by rw [← z]; exact hr)
        exact ⟨g1, by rw [upd_ne nr] at g2; exact g2, g3, by rw [upd_ne nr]; exact g4⟩
  · obtain ⟨g1, g2, g3⟩ := R2.pool a ha
    have na : a ≠ D := fun z => n.np (by rw [← z]; exact ha)
    exact ⟨g1, by rw [upd_ne na] at g2; exact g2, by rw [upd_ne na]; exact g3⟩
theorem Rep.unblock {s2 : S} {acc' : List V} (R : Rep K G P F H σ s) (n : Nu G P F σ s D) (hno : noOwn vs s.e = true) (e : Same F F') (R2 : Rep K (upd G D (.lst acc)) P F' H' τ s2) (he : wipeE s2.e vs = wipeE s.e vs) (hτ : ∀ i, i ∉ vs → τ[i]? = σ[i]?) :
    Rep K G P F' (upd H' D (.lst acc')) σ ⟨s.e, s2.q⟩ ∧ Nu G P F' σ ⟨s.e, s2.q⟩ D ∧ H' D = some (.lst acc) := R.unblockO n hno e R2 he hτ
end
theorem lc_of {K : PySem.W.Frag} {vs is : List Nat} {wi : DI} {wg : DG} {wt : DT} {we : DE} (hsub : ∀ i ∈ is, i ∈ vs) (σ : L2.St) (H : Hp) (Q : VK) (h : tL K (wLc vs wi wg wt we) σ H Q) : tLc (tI K wi) (tG K is wg) (tT K wt) (tE K we) vs σ H Q := by
  obtain ⟨G, P, F, s, Φ, R, h, k⟩ := h
  refine ⟨G, P, F, s, _, R, h, fun J F1 H1 s1 xs R1 e1 Y q D hD => ?_⟩
  obtain ⟨hno, q⟩ := q
  obtain ⟨R1', n1⟩ := nu_new (o := .lst []) R1 hD
  refine ⟨fun i m H2 => m = xs.length - i ∧ i ≤ xs.length ∧ ∃ F2 vacc acc q2, Same F1 F2 ∧ H2 D = some (.lst vacc) ∧ DqA K F2 vacc acc ∧ Rep K G P F2 H2 σ ⟨s1.e, q2⟩ ∧ Nu G P F2 σ ⟨s1.e, q2⟩ D ∧
    lcW vs s1.e wg wt we (fun ys q => Φ ys ⟨s1.e, q⟩) (xs.drop i) acc q2, ⟨_, rfl, Nat.zero_le _, F1, [], [], s1.q, Same.refl F1, upd_same, .nil, R1', n1, by simpa using q⟩, ?_⟩
  rintro i m H2 ⟨rfl, hi, F2, vacc, acc, q2, e2, hD2, dacc, R2, n2, w2⟩
  by_cases hl : i < xs.length
  · obtain ⟨go, yl⟩ := (Y F2 H2 e2 R2.same i).1 xs[i] (List.getElem?_eq_getElem hl)
    rw [List.drop_eq_getElem_cons hl] at w2
    refine .inr ⟨go, fun H3 => ∃ F2 vacc acc q2, Same F1 F2 ∧ H3 D = some (.lst vacc) ∧ DqA K F2 vacc acc ∧ Rep K G P F2 H3 σ ⟨s1.e, q2⟩ ∧ Nu G P F2 σ ⟨s1.e, q2⟩ D ∧
      lcW vs s1.e wg wt we (fun ys q => Φ ys ⟨s1.e, q⟩) (xs.drop (i + 1)) acc q2, fun H3 z => ⟨xs.length - (i + 1), by omega, rfl, hl, z⟩, fun v H3 hy => ?_⟩
    obtain ⟨F3, f, dx⟩ := yl v H3 hy
    have RB : Rep K (upd G D (.lst vacc)) P F3 H3 (wipe σ vs) ⟨wipeE s1.e vs, q2⟩ := (R2.block (vs := vs) n2 hD2).fresh f
    refine ⟨_, P, F3, _, xs[i], _, RB, dx, w2, fun σ4 s4 R4 ag l4 q4 => ?_⟩
    obtain ⟨we4, q4⟩ := q4
    have ag' : ∀ i, i ∉ vs → σ4[i]? = σ[i]? := fun j hj => by
      rw [ag j (fun z => hj (hsub j z)), wipe_off hj]
    refine ⟨wipe_same (by rw [l4, wipe_length]) ag', ?_⟩
    refine ⟨_, P, F3, s4, _, R4, q4, fun b F5 H5 s5 R5 e5 q5 => ?_⟩
    obtain ⟨es5, q5⟩ := q5
    have e25 : Same F2 F5 := f.ff.trans e5
    cases b with
    | true =>
      rw [if_pos rfl] at q5 ⊢
      refine ⟨_, P, F5, s5, _, R5, q5, fun y F6 H6 s6 dy R6 e6 d6 q6 => ?_⟩
      obtain ⟨es6, hz, q6⟩ := q6
      obtain ⟨R7, n7, hD7⟩ := R2.unblock (vs := vs) (acc' := vacc ++ [y]) n2 hno (e25.trans e6) R6 (by rw [es6]; exact we4) ag'
      exact ⟨vacc, hD7, by rw [dacc.length]; exact hz, F6, vacc ++ [y], acc ++ [dy], s6.q, e2.trans (e25.trans e6), upd_same, (dacc.mono (e25.trans e6)).append (.cons d6 .nil), R7, n7, q6⟩
    | false =>
      rw [if_neg Bool.false_ne_true] at q5 ⊢
      obtain ⟨R7, n7, hD7⟩ := R2.unblock (vs := vs) (acc' := vacc) n2 hno e25 R5 (by rw [es5]; exact we4) ag'
      have eu : upd H5 D (.lst vacc) = H5 := by
        funext b
        by_cases hb : b = D
        · rw [hb, upd_same, hD7]
        · rw [upd_ne hb]
      rw [eu] at R7
      exact ⟨F5, vacc, acc, s5.q, e2.trans e25, hD7, dacc.mono e25, R7, n7, q5⟩
  · refine .inl ⟨(Y F2 H2 e2 R2.same i).2 (by omega), ?_⟩
    rw [List.drop_eq_nil_of_le (by omega)] at w2
    exact k D vacc F2 H2 ⟨s1.e, q2⟩ acc R2 (e1.trans e2) n2 hD2 dacc w2
theorem xl_lc {elt tg iter : Expr} {ifs : List Expr} {scope : Scope} {own : List (Str × Nat)} {is : List Nat} {wi : DI} {wg : DG} {wt : DT} {we : DE} (hc : X.calm = true) (hN : X.N.Nodup) (hi : XI X tg iter wi) (ok : BlkOk X.N X.env.scope scope own) (hsub : ∀ i ∈ is, i ∈ own.map (·.2))
    (hg : ∀ (s : Shared) (H : Hp) (C : Addr) (cl : List (Str × Addr)) (fp : List Addr), XG (X.blk s H scope (compEnvC scope cl C X.env) fp) tg is wg) (ht : ∀ (s : Shared) (H : Hp) (C : Addr) (cl : List (Str × Addr)) (fp : List Addr), XTs (X.blk s H scope (compEnvC scope cl C X.env) fp) ifs wt)
    (he : ∀ (s : Shared) (H : Hp) (C : Addr) (cl : List (Str × Addr)) (fp : List Addr), XE (X.blk s H scope (compEnvC scope cl C X.env) fp) elt we) (hs : ∀ x, foldedSetIterable iter X.env x = pure x := by intro _; rfl) :
    XL X (.ListComp elt [⟨tg, iter, ifs, 0⟩] scope pos) (wLc (own.map (·.2)) wi wg wt we) := pe_imp (pe_lc hc hN hi ok hg ht he hs) (lc_of hsub)
/-- y = [..] on one line, y a plain name: one's own -/
theorem xs_setLcO {i : Nat} {y : Str} {py : Pos} {elt tg iter : Expr} {ifs : List Expr} {scope : Scope} {own : List (Str × Nat)} {spos : Pos} {is : List Nat} {wi : DI} {wg : DG} {wt : DT} {we : DE} (hc : X.calm = true) (hN : X.N.Nodup) (hy : X.N[i]? = some y) (hyl : X.env.scope.names.lookup y = some .local)
    (hsw : swapsWith (.ListComp elt [⟨tg, iter, ifs, 0⟩] scope pos) (some (.Name y py)) spos.line X.env = pure true) (hi : XI X tg iter wi) (ok : BlkOk X.N X.env.scope scope own) (hsub : ∀ i ∈ is, i ∈ own.map (·.2))
    (hg : ∀ (s : Shared) (H : Hp) (C : Addr) (cl : List (Str × Addr)) (fp : List Addr), XG (X.blk s H scope (compEnvC scope cl C X.env) fp) tg is wg) (ht : ∀ (s : Shared) (H : Hp) (C : Addr) (cl : List (Str × Addr)) (fp : List Addr), XTs (X.blk s H scope (compEnvC scope cl C X.env) fp) ifs wt)
    (he : ∀ (s : Shared) (H : Hp) (C : Addr) (cl : List (Str × Addr)) (fp : List Addr), XE (X.blk s H scope (compEnvC scope cl C X.env) fp) elt we) (hs : ∀ x, foldedSetIterable iter X.env x = pure x := by intro _; rfl) :
    XS X (.Assign [.Name y py] (.ListComp elt [⟨tg, iter, ifs, 0⟩] scope pos) spos) (wSetO i (wLc (own.map (·.2)) wi wg wt we)) := ps_imp (ps_setLc hc hN hy hyl hsw hi ok hg ht he hs) fun D σ H h => by
  obtain ⟨G, P, F, s, Φ, R, h, b⟩ := h
  exact lc_of hsub σ H _ ⟨G, P, F, s, _, R, h, fun p vs F' H' s' x R' e n hp d q => b.nx _ F' H' _ (R'.setO n hp d) e q⟩
/-- .. as data -/
theorem xs_setLc {i : Nat} {y : Str} {py : Pos} {elt tg iter : Expr} {ifs : List Expr} {scope : Scope} {own : List (Str × Nat)} {spos : Pos} {is : List Nat} {wi : DI} {wg : DG} {wt : DT} {we : DE} (hc : X.calm = true) (hN : X.N.Nodup) (hy : X.N[i]? = some y) (hyl : X.env.scope.names.lookup y = some .local)
    (hsw : swapsWith (.ListComp elt [⟨tg, iter, ifs, 0⟩] scope pos) (some (.Name y py)) spos.line X.env = pure true) (hi : XI X tg iter wi) (ok : BlkOk X.N X.env.scope scope own) (hsub : ∀ i ∈ is, i ∈ own.map (·.2))
    (hg : ∀ (s : Shared) (H : Hp) (C : Addr) (cl : List (Str × Addr)) (fp : List Addr), XG (X.blk s H scope (compEnvC scope cl C X.env) fp) tg is wg) (ht : ∀ (s : Shared) (H : Hp) (C : Addr) (cl : List (Str × Addr)) (fp : List Addr), XTs (X.blk s H scope (compEnvC scope cl C X.env) fp) ifs wt)
    (he : ∀ (s : Shared) (H : Hp) (C : Addr) (cl : List (Str × Addr)) (fp : List Addr), XE (X.blk s H scope (compEnvC scope cl C X.env) fp) elt we) (hs : ∀ x, foldedSetIterable iter X.env x = pure x := by intro _; rfl) :
    XS X (.Assign [.Name y py] (.ListComp elt [⟨tg, iter, ifs, 0⟩] scope pos) spos) (wSet i (wFz (wLc (own.map (·.2)) wi wg wt we))) := ps_imp (ps_setLc hc hN hy hyl hsw hi ok hg ht he hs) fun D σ H h => by
  obtain ⟨G, P, F, s, Φ, R, h, b⟩ := h
  refine lc_of hsub σ H _ ⟨G, P, F, s, _, R, h, fun p vs F' H' s' x R' e n hp d q => ?_⟩
  obtain ⟨R2, dq⟩ := R'.take n hp d
  exact b.nx _ _ H' _ (R2.setD dq) (e.trans (same_new n.f)) q
end
end DL
/-! DL, fifth part: defs, their promises (nothing under repr around), calls. -/
namespace DL
open PySem PySem.Spec PyProof.Rows L2

/-- a def's promise where no repr is under way -/
structure FnG (P : Program) (w : World) (K : PySem.W.Frag) (mg : Str → Option Value) (base : Heap) (CX : CXT) (k : Nat) (f : Addr) (fd : FuncData) (ps : List Str) (sp : Sp) : Prop where
  len : ∀ vs H Q E, sp vs H Q E → vs.length = ps.length
  go : ∀ (A : Around) (outer : List Env) (s : Shared) (H : Hp) (args : Args) (us : List Value) (vs : List V) (Q : VK) (E : XK), A.guards = some [] → Room k A → Env0 P w K mg base A outer s H → BindsTo s fd args (ps.zip us) →
    Vals vs us → sp vs H Q E → codeAny (model P w) A (.call (.ref f) args) (CR CX outer P w H s Q E) s
section
variable {P : Program} {w : World} {K : PySem.W.Frag} {mg : Str → Option Value} {base : Heap} {CX : CXT} {k : Nat} {f : Addr} {fd : FuncData} {ps : List Str} {sp : Sp}
theorem FnG.of (F : FnOk P w K mg base CX k f fd ps sp) : FnG P w K mg base CX k f fd ps sp := ⟨F.len, fun A outer s H args us vs Q E _ => F.run A outer s H args us vs Q E⟩
theorem FnG.mono {j : Nat} (F : FnG P w K mg base CX j f fd ps sp) (h : j ≤ k) : FnG P w K mg base CX k f fd ps sp := ⟨F.len, fun A outer s H args us vs Q E g hr => F.go A outer s H args us vs Q E g (hr.mono h)⟩
theorem FnG.imp {sp' : Sp} (F : FnG P w K mg base CX k f fd ps sp) (h : ∀ vs H Q E, sp' vs H Q E → sp vs H Q E) : FnG P w K mg base CX k f fd ps sp' :=
  ⟨fun vs H Q E q => F.len vs H Q E (h _ _ _ _ q), fun A outer s H args us vs Q E g hr he hb hv hs => F.go A outer s H args us vs Q E g hr he hb hv (h _ _ _ _ hs)⟩
/-- a def of the text by its body -/
theorem fng_of {qual x : Str} {st : Stmt} {N : List Str} (F : Fun K x qual st f fd) (Sc : FnScope N ps (defScope st)) (len : ∀ vs H Q E, sp vs H Q E → vs.length = ps.length)
    (hbody : ∀ (cdv : Value), fd.code = cdv → ∀ (A : Around) (outer : List Env) (s : Shared) (H : Hp) (vs : List V) (Q : VK) (E : XK), (A.deeper (envOfC qual (defScope st) s.heap.objs.size f cdv)).guards = some [] → Room k (A.deeper (envOfC qual (defScope st) s.heap.objs.size f cdv)) → sp vs H Q E →
      ∃ t, PSs (cxOf CX P w K mg base N qual (defScope st) f cdv A outer s H E) (defBody st) t ∧ t { nx := fun _ H' => Q .non H', rt := Q } (L2.start N vs) H) : FnG P w K mg base CX (k + 1) f fd ps sp := by
  obtain ⟨oc, od, kV, doc, pm, an, cdv, ct, osl, rfl, lk, hcd⟩ := F.ex
  refine ⟨len, fun A outer s H args us vs Q E g hr z hb r hsp => ?_⟩
  have names : ∀ y ∈ ps.zip us, (defScope st).names.lookup y.1 = some .local ∨ ((defScope st).names.lookup y.1 = some .cell ∧ ((cellsFrom (s.heap.objs.size + 1) (defScope st).names []).lookup y.1).isSome = true) := by
    rintro ⟨n, v⟩ hy
    rcases Sc.par n (List.of_mem_zip hy).1 with q | q
    · exact Or.inl q
    · exact Or.inr ⟨q, PySem.W.cellsFrom_some _ _ _ (Or.inl q)⟩
  have kin : K.In s.heap := z.mod.kin.keeps fun b o e => (z.bs b o e).1
  have nolim : s.heap.NoLimit := z.mod.nolimit.keeps fun b o e => (z.bs b o e).1
  refine codeAny_call_function hr.depth (kin _ _ lk) rfl Sc.co Sc.gen rfl (PySem.W.codeRec_of kin hcd) (hb _ _ _ _ (wpAny_newFunctionEnv_cells Sc.kind names fun env he s1 y => ?_))
  subst he
  obtain ⟨t, ht, hq⟩ := hbody cdv rfl A outer s H vs Q E (by show A.guards = some []; exact g) (hr.deeper _) hsp
  refine ⟨nolim.keeps y.toInCall.keep, codeAny_func (wpAny_mono (ht.run [] s1 (L2.start N vs) H _ (inv_start Sc hr.hd z (len _ _ _ _ hsp) r y) hq) (fun fl s' hs => ?_) fun e s' hs => hs)⟩
  cases fl with
  | ret u =>
    obtain ⟨v, σ', H', J, rv, q⟩ := hs
    exact (⟨v, H', J.os, J.bare, J.base, J.hok, rv, q⟩ : CE outer P w H s Q u s')
  | next =>
    obtain ⟨σ', H', J, q⟩ := hs
    exact (⟨V.non, H', J.os, J.bare, J.base, J.hok, rfl, q⟩ : CE outer P w H s Q .none s')
  | brk => exact hs.elim fun _ h => h.elim fun _ h => False.elim h.2
  | cont => exact hs.elim fun _ h => h.elim fun _ h => False.elim h.2
end
section
variable {X : Cx} {CX : CXT} {k : Nat} {f : Addr} {fd : FuncData} {ps : List Str} {sp : Sp} {dvs : List V} {ds : List Value} {E : XK} {x : Str} {p pos : Pos} {e : Expr} {es : List Expr} {t : TA}
/-- the call of such a def -/
theorem pe_callG (F : FnG X.prog X.w X.K X.mg X.base CX k f fd ps sp) (hgd : X.A.guards = some []) (hr : Room k X.A) (hg : Gl X x) (hm : X.mg x = some (.ref f)) (hk : PySem.W.keepIn X.K (.ref f) = true) (hb : Binds X.K fd ps ds) (hd : Vals dvs ds) (hx : Passes CX X E)
    (ha : PA X (e :: es) t) (hdb : (x == ("__debug__" : Str)) = false := by decide) (he : starEach (e :: es) X.env = (false, eval e X.env) :: starEach es X.env := by rfl) (hpl : (backTo pos (starEach es X.env)).any (·.1) = false := by rfl) :
    PE X (.Call (.Name x p) (e :: es) [] pos) (tCall sp dvs E t) := by
  refine ⟨fun pins s σ H Q I h => wpAny_Call_Name_kw (ld_glob I hg hm (PySem.W.callWith_K (h₀ := X.base) I.ok.mod.kin hk (thn (ha.run pos pins s σ H _ I h) fun us s1 ⟨vs, H1, J, r, q⟩ => ⟨J.kIn, ?_⟩) he hpl) hdb)⟩
  have rr : Vals (vs ++ dvs) (us ++ ds) := r.append hd
  refine wpAny_call (codeAny_mono (F.go X.A X.stack s1 H1 ⟨us, []⟩ (us ++ ds) (vs ++ dvs) Q E hgd hr J.env0 (hb s1 us J.kIn (by rw [← rr.length]; exact F.len _ _ _ _ q)) rr q) fun r s' hq => ?_)
  match r, hq with
  | .error e, hq => exact hx pins σ H1 s1 e s' J hq
  | .ok (.ret u), hq => exact J.after hq
  | .ok .next, hq => exact hq.elim
  | .ok .brk, hq => exact hq.elim
  | .ok .cont, hq => exact hq.elim
end

/-! ### promises over data -/
/-- a def of data: what it is handed stays, what it hands back is new or handed in -/
abbrev DSp := List PyData → (PyData → Prop) → Prop
/-- the tables are held, and are not frozen -/
structure TabsF (K : PySem.W.Frag) (F H : Hp) : Prop where
  gen : ∀ b, TabK K b → F b = none ∧ H b = some (.ext (tabPh b))
  lam : ∀ b, LamK K b → F b = none ∧ ∃ ps, H b = some (.tbl ps)
  tk : Tk F H
theorem Rep.tabF {K : PySem.W.Frag} {G F H : Hp} {P : Option Addr} {σ : L2.St} {s : S} (R : Rep K G P F H σ s) : TabsF K F H := ⟨fun b hb => ⟨R.apart b _ (R.tab.1.1 b hb), R.keep.go (R.tab.1.1 b hb)⟩, fun b hb => ⟨(R.tab.1.2 b hb).elim fun _ q => R.apart b _ q, R.tab.1.tblAt R.keep hb⟩, R.tab.2⟩
def spD (K : PySem.W.Frag) (f : DSp) : Sp := fun vs H Q _ => ∃ F ds Φ, (Same F H ∧ TabsF K F H) ∧ DqA K F vs ds ∧ f ds Φ ∧ ∀ v F' H' x, Fresh F H F' H' → Dq K F' v x → Φ x → Q v H'
/-- .. whose first argument is the pool at a -/
structure FreshP (a : Addr) (F H F' H' : Hp) : Prop where
  ff : Same F F'
  fh : Same F' H'
  hh : ∀ b o, b ≠ a → H b = some o → (isTb o = false → H' b = some o) ∧ ∃ o', H' b = some o' ∧ isTb o' = isTb o
  fr : ∀ b o, H b = some o → F b = none → F' b = none
  tk : Tk F H → Tk F' H'
abbrev DSpP := List PyData → List Int → (PyData → List Int → Prop) → Prop
def spP (K : PySem.W.Frag) (f : DSpP) : Sp := fun vs H Q _ => ∃ a us F ds q Φ, vs = .ref a :: us ∧ (Same F H ∧ TabsF K F H) ∧ F a = none ∧ H a = some (.lst (q.map V.int)) ∧ DqA K F us ds ∧ f ds q Φ ∧
  ∀ v F' H' x q', FreshP a F H F' H' → H' a = some (.lst (q'.map V.int)) → Dq K F' v x → Φ x q' → Q v H'
/-- the part of H that is not frozen, nor at a -/
def partH (F H : Hp) (P : Option Addr) : Hp := fun b => if F b = none ∧ P ≠ some b then H b else none
section
variable {K : PySem.W.Frag} {F H : Hp} {P : Option Addr}
theorem partH_some {b : Addr} {o : HO} (h : partH F H P b = some o) : F b = none ∧ P ≠ some b ∧ H b = some o := by
  unfold partH at h
  by_cases c : F b = none ∧ P ≠ some b
  · rw [if_pos c] at h
    exact ⟨c.1, c.2, h⟩
  · rw [if_neg c] at h
    cases h
theorem partH_at {b : Addr} {o : HO} (h1 : F b = none) (h2 : P ≠ some b) (h : H b = some o) : partH F H P b = some o := by
  unfold partH
  rw [if_pos ⟨h1, h2⟩]
  exact h
theorem partH_none {b : Addr} (h : ¬ (F b = none ∧ P ≠ some b)) : partH F H P b = none := by
  unfold partH
  rw [if_neg h]
/-- the slots at the entry -/
@[simp] def startE (N : List Str) (ds : List Sl) : List Sl := ds ++ List.replicate (N.length - ds.length) .un
theorem start_get {N : List Str} {vs : List V} {i : Nat} {v : V} (h : vs[i]? = some v) : (L2.start N vs)[i]? = some (some v) := by
  unfold L2.start
  rw [List.getElem?_append_left (by rw [List.length_map]; exact (List.getElem?_eq_some_iff.mp h).1), List.getElem?_map, h]
  rfl
theorem startE_get {N : List Str} {ds : List Sl} {i : Nat} {x : Sl} (h : (startE N ds)[i]? = some x) : ds[i]? = some x ∨ x = .un := by
  unfold startE at h
  by_cases hi : i < ds.length
  · rw [List.getElem?_append_left hi] at h
    exact .inl h
  · rw [List.getElem?_append_right (by omega), List.getElem?_replicate] at h
    split at h
    · exact .inr (Option.some.inj h).symm
    · cases h
theorem tabs_part {K : PySem.W.Frag} {F H : Hp} {P : Option Addr} (t : TabsF K F H) (h : ∀ b, P = some b → ∃ xs, H b = some (.lst xs)) : TabsAt K (partH F H P) ∧ Tk F H := ⟨⟨fun b hb => partH_at (t.gen b hb).1 (fun z => by
  obtain ⟨xs, q⟩ := h b z
  rw [(t.gen b hb).2] at q
  cases q) (t.gen b hb).2, fun b hb => by
  obtain ⟨f, ps, q⟩ := t.lam b hb
  exact ⟨ps, partH_at f (fun z => by
    obtain ⟨xs, q2⟩ := h b z
    rw [q] at q2
    cases q2) q⟩⟩, t.tk⟩
theorem part_same {F H : Hp} {P : Option Addr} : SameT (partH F H P) H := .of fun b o h => (partH_some h).2.2
theorem rep_startD {N : List Str} {vs : List V} {ds : List PyData} (e0 : Same F H ∧ TabsF K F H) (d : DqA K F vs ds) (q : List Int) : Rep K (partH F H none) none F H (L2.start N vs) ⟨startE N (ds.map .d), q⟩ := by
  obtain ⟨e, tf⟩ := e0
  refine ⟨e, part_same, fun b o h => (partH_some h).1, fun i x hx => ?_, fun i j xs ys p hi hj _ _ => ?_, fun a ha => (by cases ha), ?_, fun i j x y r hi hj hr _ _ => ?_, tabs_part tf fun _ z => by cases z⟩
  · rcases startE_get hx with h | rfl
    · rw [List.getElem?_map] at h
      cases hd : ds[i]? with
      | none =>
        rw [hd] at h
        cases h
      | some y =>
        rw [hd] at h
        cases h
        obtain ⟨v, a, b⟩ := d.get hd
        exact ⟨v, start_get a, b⟩
    · exact True.intro
  · rcases startE_get hi with h | h
    · rw [List.getElem?_map] at h
      cases hd : ds[i]? with
      | none =>
        rw [hd] at h
        cases h
      | some y =>
        rw [hd] at h
        cases h
    · cases h
  · show (L2.start N vs).length = (startE N (ds.map .d)).length
    unfold L2.start startE
    rw [List.length_append, List.length_append, List.length_map, List.length_map, List.length_replicate, List.length_replicate, d.length]
  · rcases startE_get hi with h | rfl
    · rw [List.getElem?_map] at h
      cases hd : ds[i]? with
      | none =>
        rw [hd] at h
        cases h
      | some y =>
        rw [hd] at h
        cases h
        cases hr
    · cases hr
theorem rep_startP {N : List Str} {vs : List V} {ds : List PyData} {a : Addr} {q : List Int} (e0 : Same F H ∧ TabsF K F H) (d : DqA K F vs ds) (fa : F a = none) (ha : H a = some (.lst (q.map V.int))) :
    Rep K (partH F H (some a)) (some a) F H (L2.start N (.ref a :: vs)) ⟨startE N (.pl :: ds.map .d), q⟩ := by
  have look : ∀ {i : Nat} {x : Sl}, (.pl :: ds.map Sl.d : List Sl)[i]? = some x → (i = 0 ∧ x = .pl) ∨ ∃ j y, i = j + 1 ∧ x = .d y ∧ ds[j]? = some y := fun {i x} h => by
    cases i with
    | zero => exact .inl ⟨rfl, (Option.some.inj (by simpa using h)).symm⟩
    | succ j =>
      have h' : (ds.map Sl.d)[j]? = some x := by simpa using h
      rw [List.getElem?_map] at h'
      cases hd : ds[j]? with
      | none =>
        rw [hd] at h'
        cases h'
      | some y =>
        rw [hd] at h'
        cases h'
        exact .inr ⟨j, y, rfl, rfl, hd⟩
  obtain ⟨e, tf⟩ := e0
  refine ⟨e, part_same, fun b o h => (partH_some h).1, fun i x hx => ?_, fun i j xs ys p hi hj _ _ => ?_, fun b hb => ?_, ?_, fun i j x y r hi hj hr _ _ => ?_, tabs_part tf fun b z => by
    cases z
    exact ⟨_, ha⟩⟩
  · rcases startE_get hx with h | rfl
    · rcases look h with ⟨rfl, rfl⟩ | ⟨j, y, rfl, rfl, hd⟩
      · exact ⟨a, rfl, start_get rfl⟩
      · obtain ⟨v, g, b⟩ := d.get hd
        exact ⟨v, start_get (by simpa using g), b⟩
    · exact True.intro
  · rcases startE_get hi with h | h
    · rcases look h with ⟨_, z⟩ | ⟨_, _, _, z, _⟩
      · cases z
      · cases z
    · cases h
  · cases hb
    exact ⟨fa, partH_none (fun z => z.2 rfl), ha⟩
  · show (L2.start N (.ref a :: vs)).length = (startE N (.pl :: ds.map .d)).length
    unfold L2.start startE
    rw [List.length_append, List.length_append, List.length_map, List.length_replicate, List.length_replicate, List.length_cons, List.length_cons, List.length_map, d.length]
  · rcases startE_get hi with h | rfl
    · rcases look h with ⟨rfl, rfl⟩ | ⟨j, y, rfl, rfl, hd⟩
      · cases hr
      · cases hr
    · cases hr
end
/-- what a def leaves that was entered so -/
theorem fresh_of {K : PySem.W.Frag} {F H F' H' : Hp} {σ' : L2.St} {s' : S} (e : Same F H ∧ TabsF K F H) (R : Rep K (partH F H none) none F' H' σ' s') (ee : Same F F') : Fresh F H F' H' :=
  ⟨ee, R.same, fun b o hb => by
    cases hF : F b with
    | none => exact R.keep b o (partH_at hF (fun z => by cases z) hb)
    | some u =>
      have q := e.1 b u hF
      rw [hb] at q
      cases q
      have z := R.same b o (ee b o hF)
      exact ⟨fun _ => z, o, z, rfl⟩, fun b o hb hF => R.apart b o (partH_at hF (fun z => by cases z) hb), fun _ => R.tab.2⟩
/-- the ends of a def of data -/
@[simp] def endD (Φ : PyData → Prop) : EN := { nx := fun _ => Φ .none, rt := fun x _ => Φ x }
@[simp] def endP (Φ : PyData → List Int → Prop) : EN := { nx := fun s => Φ .none s.q, rt := fun x s => Φ x s.q }
section
variable {P : Program} {w : World} {K : PySem.W.Frag} {mg : Str → Option Value} {base : Heap} {k : Nat} {f : Addr} {fd : FuncData} {ps : List Str} {qual x : Str} {st : Stmt} {N : List Str}
/-- a def over data by its body -/
theorem fn_D {sp : DSp} (F : Fun K x qual st f fd) (Sc : FnScope N ps (defScope st)) (len : ∀ ds Φ, sp ds Φ → ds.length = ps.length)
    (hbody : ∀ (cdv : Value) (A : Around) (outer : List Env) (s : Shared) (H : Hp) (E : XK), (A.deeper (envOfC qual (defScope st) s.heap.objs.size f cdv)).guards = some [] → Room k (A.deeper (envOfC qual (defScope st) s.heap.objs.size f cdv)) →
      ∃ wd, XSs (cxOf CX0 P w K mg base N qual (defScope st) f cdv A outer s H E).nox (defBody st) wd ∧ ∀ ds Φ, sp ds Φ → wd (endD Φ) ⟨startE N (ds.map .d), []⟩) : FnG P w K mg base CX0 (k + 1) f fd ps (spD K sp) := by
  refine fng_of F Sc (fun vs H Q E h => ?_) (fun cdv _ A outer s H vs Q E g hr h => ?_)
  · obtain ⟨F, ds, Φ, _, d, hs, _⟩ := h
    rw [d.length]
    exact len ds Φ hs
  · obtain ⟨wd, hX, hw⟩ := hbody cdv A outer s H E g hr
    refine ⟨_, hX.nox, ?_⟩
    obtain ⟨F, ds, Φ, e, d, hs, kk⟩ := h
    have fr : ∀ {σ' : L2.St} {F' H' : Hp} {s' : S}, Rep K (partH F H none) none F' H' σ' s' → Same F F' → Fresh F H F' H' := fun {σ' F' H' s'} R ee => fresh_of e R ee
    exact ⟨_, none, F, _, _, rep_startD e d [], hw ds Φ hs, fun σ' F' H' s' R ee q => kk _ F' H' .none (fr R ee) .non q, fun v σ' F' H' s' x R ee dx q => kk v F' H' x (fr R ee) dx q, fun _ _ _ _ _ _ q => q.elim, fun _ _ _ _ _ _ q => q.elim, fun _ _ _ _ _ _ _ _ _ _ _ _ q => q.elim, fun _ _ _ _ _ _ _ _ q => q.elim⟩
theorem fn_P {sp : DSpP} (F : Fun K x qual st f fd) (Sc : FnScope N ps (defScope st)) (len : ∀ ds q Φ, sp ds q Φ → ds.length + 1 = ps.length)
    (hbody : ∀ (cdv : Value) (A : Around) (outer : List Env) (s : Shared) (H : Hp) (E : XK), (A.deeper (envOfC qual (defScope st) s.heap.objs.size f cdv)).guards = some [] → Room k (A.deeper (envOfC qual (defScope st) s.heap.objs.size f cdv)) →
      ∃ wd, XSs (cxOf CX0 P w K mg base N qual (defScope st) f cdv A outer s H E).nox (defBody st) wd ∧ ∀ ds q Φ, sp ds q Φ → wd (endP Φ) ⟨startE N (.pl :: ds.map .d), q⟩) : FnG P w K mg base CX0 (k + 1) f fd ps (spP K sp) := by
  refine fng_of F Sc (fun vs H Q E h => ?_) (fun cdv _ A outer s H vs Q E g hr h => ?_)
  · obtain ⟨a, us, F, ds, q, Φ, rfl, _, _, _, d, hs, _⟩ := h
    rw [List.length_cons, d.length]
    exact len ds q Φ hs
  · obtain ⟨wd, hX, hw⟩ := hbody cdv A outer s H E g hr
    refine ⟨_, hX.nox, ?_⟩
    obtain ⟨a, us, F, ds, q, Φ, rfl, e, fa, ha, d, hs, kk⟩ := h
    have fr : ∀ {σ' : L2.St} {F' H' : Hp} {s' : S}, Rep K (partH F H (some a)) (some a) F' H' σ' s' → Same F F' → FreshP a F H F' H' := fun {σ' F' H' s'} R ee => by
      refine ⟨ee, R.same, fun b o nb hb => ?_, fun b o hb hF => ?_, fun _ => R.tab.2⟩
      · cases hF : F b with
        | none => exact R.keep b o (partH_at hF (fun z => nb (Option.some.inj z).symm) hb)
        | some u =>
          have q := e.1 b u hF
          rw [hb] at q
          cases q
          have z := R.same b o (ee b o hF)
          exact ⟨fun _ => z, o, z, rfl⟩
      · by_cases nb : b = a
        · rw [nb]
          exact (R.pool a rfl).1
        · exact R.apart b o (partH_at hF (fun z => nb (Option.some.inj z).symm) hb)
    exact ⟨_, some a, F, _, _, rep_startP e d fa ha, hw ds q Φ hs, fun σ' F' H' s' R ee q => kk _ F' H' .none s'.q (fr R ee) (R.pool a rfl).2.2 .non q, fun v σ' F' H' s' x R ee dx q => kk v F' H' x s'.q (fr R ee) (R.pool a rfl).2.2 dx q, fun _ _ _ _ _ _ q => q.elim, fun _ _ _ _ _ _ q => q.elim, fun _ _ _ _ _ _ _ _ _ _ _ _ q => q.elim, fun _ _ _ _ _ _ _ _ q => q.elim⟩
end
/-! ### calls -/
section
variable {X : Cx} {k : Nat} {f : Addr} {fd : FuncData} {ps : List Str} {x : Str} {p pos : Pos} {e : Expr} {es : List Expr}
@[simp] def wCall (sp : DSp) (wa : DA) : DE := fun s Φ => wa s fun ds s1 => sp ds fun r => Φ r s1
theorem xe_call {sp : DSp} {wa : DA} (F : FnG X.prog X.w X.K X.mg X.base CX0 k f fd ps (spD X.K sp)) (hgd : X.A.guards = some []) (hr : Room k X.A) (hg : Gl X x) (hm : X.mg x = some (.ref f)) (hk : PySem.W.keepIn X.K (.ref f) = true) (hb : Binds X.K fd ps [])
    (ha : XA X (e :: es) wa) (hdb : (x == ("__debug__" : Str)) = false := by decide) (he : starEach (e :: es) X.env = (false, eval e X.env) :: starEach es X.env := by rfl) (hpl : (backTo pos (starEach es X.env)).any (·.1) = false := by rfl) :
    XE X (.Call (.Name x p) (e :: es) [] pos) (wCall sp wa) := pe_imp (pe_callG F hgd hr hg hm hk hb .nil pass0 ha hdb he hpl) fun σ H Q h => by
  obtain ⟨G, P, F, s, Φ, R, h, kk⟩ := h
  refine ⟨G, P, F, s, _, R, h, fun vs F1 H1 s1 ds R1 e1 d1 q => ?_⟩
  show spD X.K sp (vs ++ []) H1 Q E0
  rw [List.append_nil]
  exact ⟨F1, ds, _, ⟨R1.same, R1.tabF⟩, d1, q, fun v F' H' x fr dx qx => kk v F' H' s1 x (R1.fresh fr) (e1.trans fr.ff) dx qx⟩
theorem Rep.freshP {K : PySem.W.Frag} {G F F' H H' : Hp} {a : Addr} {σ : L2.St} {s : S} {q' : List Int} (R : Rep K G (some a) F H σ s) (f : FreshP a F H F' H') (hq : H' a = some (.lst (q'.map V.int))) : Rep K G (some a) F' H' σ ⟨s.e, q'⟩ := by
  obtain ⟨p1, p2, p3⟩ := R.pool a rfl
  refine ⟨f.fh, fun b o g => by
    have nb : b ≠ a := fun z => by rw [z, p2] at g; cases g
    obtain ⟨g1, o1, g2, g3⟩ := R.keep b o g
    obtain ⟨h1, o2, h2, h3⟩ := f.hh b o1 nb g2
    exact ⟨fun t => (f.hh b o nb (g1 t)).1 t, o2, h2, h3.trans g3⟩, fun b o g => by
    obtain ⟨o', h'⟩ := R.keep.ex g
    exact f.fr b o' h' (R.apart b o g), fun i x hx => ?_, R.sep, fun b hb => ?_, R.len, R.tbs, ⟨R.tab.1, f.tk R.tab.2⟩⟩
  · have q := R.sl i x hx
    cases x with
    | un => exact True.intro
    | d x =>
      obtain ⟨v, a1, a2⟩ := q
      exact ⟨v, a1, a2.mono f.ff⟩
    | o xs =>
      obtain ⟨p, vs, h1, h2, h3, h4, h5, h6⟩ := q
      exact ⟨p, vs, h1, f.fr p _ h5 h2, h3, h4, (f.hh p _ (fun z => h4 (by rw [z])) h5).1 rfl, h6.mono f.ff⟩
    | pl => exact q
    | sc ns =>
      obtain ⟨b, a1, a2⟩ := q
      exact ⟨b, a1, f.ff.seq a2⟩
    | tb p qs xss => exact q.tbUp rfl f.ff fun r o _ g1 g2 g3 g4 => ⟨f.fr r _ g4 g1, g2, g3, (f.hh r _ (fun z => g3 (by rw [z])) g4).1 rfl⟩
  · cases hb
    exact ⟨f.fr a _ p3 p1, p2, hq⟩
@[simp] def poolAt (s : S) (i : Nat) (k : Prop) : Prop := match s.e[i]? with
  | some .pl => k
  | _ => False
theorem poolAt_of {s : S} {i : Nat} {k : Prop} (h : poolAt s i k) : s.e[i]? = some .pl ∧ k := by
  unfold poolAt at h
  cases hs : s.e[i]? with
  | none =>
    rw [hs] at h
    exact h.elim
  | some z =>
    rw [hs] at h
    cases z with
    | pl => exact ⟨rfl, h⟩
    | _ => exact h.elim
/-- f(pool, ..) -/
@[simp] def wCallP (i : Nat) (sp : DSpP) (wa : DA) : DE := fun s Φ => poolAt s i (wa s fun ds s1 => sp ds s1.q fun r q' => Φ r ⟨s1.e, q'⟩)
theorem xe_callP {i : Nat} {y : Str} {yp : Pos} {sp : DSpP} {wa : DA} (F : FnG X.prog X.w X.K X.mg X.base CX0 k f fd ps (spP X.K sp)) (hgd : X.A.guards = some []) (hr : Room k X.A) (hg : Gl X x) (hm : X.mg x = some (.ref f)) (hk : PySem.W.keepIn X.K (.ref f) = true) (hb : Binds X.K fd ps [])
    (hv : PE X (.Name y yp) (tVar i)) (ha : XA X es wa) (hdb : (x == ("__debug__" : Str)) = false := by decide) (he : starEach (.Name y yp :: es) X.env = (false, eval (.Name y yp) X.env) :: starEach es X.env := by rfl) (hpl : (backTo pos (starEach es X.env)).any (·.1) = false := by rfl) :
    XE X (.Call (.Name x p) (.Name y yp :: es) [] pos) (wCallP i sp wa) := pe_imp (pe_callG F hgd hr hg hm hk hb .nil pass0 (pa_cons hv ha he) hdb he hpl) fun σ H Q h => by
  obtain ⟨G, P, F, s, Φ, R, h, kk⟩ := h
  obtain ⟨hs, h⟩ := poolAt_of h
  obtain ⟨a, rfl, ha⟩ := R.sl i _ hs
  refine ⟨_, ha, G, some a, F, s, _, R, h, fun vs F1 H1 s1 ds R1 e1 d1 q => ?_⟩
  show spP X.K sp ((.ref a :: vs) ++ []) H1 Q E0
  rw [List.append_nil]
  obtain ⟨p1, p2, p3⟩ := R1.pool a rfl
  exact ⟨a, vs, F1, ds, s1.q, _, rfl, ⟨R1.same, R1.tabF⟩, p1, p3, d1, q, fun v F' H' x q' fr hq dx qx => kk v F' H' ⟨s1.e, q'⟩ x (R1.freshP fr hq) (e1.trans fr.ff) dx qx⟩
end
end DL
/-! DL, sixth part: operations by data. -/
namespace DL
open PySem PySem.Spec PyProof.Rows L2

section
variable {K : PySem.W.Frag}
/-- ints in, a plain value out -/
@[simp] def wII (C : Int → Int → Prop) (g : Int → Int → PyData) : W2 := fun x y Φ => match x, y with
  | .int a, .int b => C a b ∧ Φ (g a b)
  | _, _ => False
@[simp] def wI2 (g : Int → Int → PyData) : W2 := fun x y Φ => match x, y with
  | .int a, .int b => Φ (g a b)
  | _, _ => False
theorem op2_I {C : Int → Int → Prop} {g : Int → Int → V} {h : Int → Int → PyData} (e : ∀ F i j, Dq K F (g i j) (h i j)) : Op2 K (rI C g) (wII C h) := ⟨fun {F H x y dx dy} Q Φ s d1 d2 w k => by
  cases dx with
  | int a =>
    cases dy with
    | int b =>
      cases d1
      cases d2
      exact ⟨a, b, rfl, rfl, w.1, k _ F H _ (Fresh.refl s) (e F a b) w.2⟩
    | _ => exact w.elim
  | _ => exact w.elim⟩
theorem op2_I0 {g : Int → Int → V} {h : Int → Int → PyData} (e : ∀ F i j, Dq K F (g i j) (h i j)) : Op2 K (rI0 g) (wI2 h) := ⟨fun {F H x y dx dy} Q Φ s d1 d2 w k => by
  cases dx with
  | int a =>
    cases dy with
    | int b =>
      cases d1
      cases d2
      exact ⟨a, b, rfl, rfl, k _ F H _ (Fresh.refl s) (e F a b) w⟩
    | _ => exact w.elim
  | _ => exact w.elim⟩
/-! + -/
def rAddS : R2 := fun x y H Q => ∃ i j, x = .str i ∧ y = .str j ∧ i.length + j.length ≤ sizeLine ∧ Q (.str (i ++ j)) H
def rPlus (K : PySem.W.Frag) : R2 := rOr (rI0 fun i j => .int (i + j)) (rOr rAddS (rOr rCat (rCatT K)))
@[simp] def wAdd : W2 := fun x y Φ => match x, y with
  | .int a, .int b => Φ (.int (a + b))
  | .str a, .str b => a.length + b.length ≤ sizeLine ∧ Φ (.str (a ++ b))
  | .list a, .list b => a.length + b.length ≤ sizeLine ∧ Φ (.list (a ++ b))
  | .tuple a, .tuple b => a ≠ [] ∧ a.length + b.length ≤ sizeLine ∧ Φ (.tuple (a ++ b))
  | _, _ => False
theorem opr_plus {X : Cx} : OpR X (binaryOp .Add) (rPlus X.K) := opr_or op_add (opr_or op_add_str (opr_or op_cat op_catT))
theorem cat_run {F H : Hp} {x y : V} {a b : List PyData} (Q : VK) (Φ : List PyData → Prop) (s : Same F H) (d1 : Dq K F x (.list a)) (d2 : Dq K F y (.list b)) (w : a.length + b.length ≤ sizeLine ∧ Φ (a ++ b))
    (k : ∀ p vs ds, H p = none → DqA K F vs ds → Φ ds → Q (.ref p) (upd H p (.lst vs))) : rCat x y H Q := by
  cases d1 with
  | lst h1 h2 =>
    cases d2 with
    | lst g1 g2 => exact ⟨_, _, _, _, rfl, rfl, s _ _ h1, s _ _ g1, by rw [h2.length, g2.length]; exact w.1, fun p hp => k p _ _ hp (h2.append g2) w.2⟩
theorem op2_plus : Op2 K (rPlus K) wAdd := ⟨fun {F H x y dx dy} Q Φ s d1 d2 w k => by
  cases dx with
  | int a =>
    cases dy with
    | int b =>
      cases d1
      cases d2
      exact .inl ⟨a, b, rfl, rfl, k _ F H _ (Fresh.refl s) (.int _) w⟩
    | _ => exact w.elim
  | str a =>
    cases dy with
    | str b =>
      cases d1
      cases d2
      exact .inr (.inl ⟨a, b, rfl, rfl, w.1, k _ F H _ (Fresh.refl s) (.str _) w.2⟩)
    | _ => exact w.elim
  | list a =>
    cases dy with
    | list b =>
      refine .inr (.inr (.inl (cat_run Q (fun z => Φ (.list z)) s d1 d2 w fun p vs ds hp dq q => ?_)))
      have f := Fresh.new (o := .lst vs) s hp
      exact k _ _ _ _ f (.lst upd_same (dq.mono f.ff)) q
    | _ => exact w.elim
  | tuple a =>
    cases dy with
    | tuple b =>
      cases d1 with
      | tup h1 h2 =>
        cases d2 with
        | tup g1 g2 =>
          rename_i xs p2 ys
          obtain ⟨w1, w2, w3⟩ := w
          have l1 := h2.length
          have l2 := g2.length
          refine .inr (.inr (.inr ⟨_, _, _, _, rfl, rfl, same_sqt s h1, same_sqt s g1, fun z => w1 (by cases a with | nil => rfl | cons _ _ => rw [z] at l1; simp at l1), by omega, fun z => ?_, fun z p hp => ?_⟩))
          · have hb : b = [] := by
              cases b with
              | nil => rfl
              | cons _ _ => rw [z] at l2; simp at l2
            rw [hb, List.append_nil] at w3
            exact k _ F H _ (Fresh.refl s) (.tup h1 h2) w3
          · have f := Fresh.new (o := .tup (xs ++ ys)) s hp
            exact k _ _ _ _ f (.tup (SqT.of upd_same) ((h2.append g2).mono f.ff)) w3
    | _ => exact w.elim
  | _ => exact w.elim⟩
@[simp] def wCat : W2L := fun x y Φ => match x, y with
  | .list a, .list b => a.length + b.length ≤ sizeLine ∧ Φ (a ++ b)
  | _, _ => False
theorem op2L_cat : Op2L K rCat wCat := ⟨fun {F H x y dx dy} Q Φ s d1 d2 w k => by
  cases dx with
  | list a =>
    cases dy with
    | list b => exact cat_run Q Φ s d1 d2 w k
    | _ => exact w.elim
  | _ => exact w.elim⟩
/-! * -/
@[simp] def wRepL : W2L := fun x y Φ => match x, y with
  | .list a, .int k => (-(2 ^ 63) ≤ k ∧ k < 2 ^ 63 ∧ a.length * k.toNat ≤ sizeLine) ∧ Φ (List.replicate k.toNat a).flatten
  | _, _ => False
/-! comparisons -/
def eqD (x y : PyData) : Prop := SeqAt.shaped x = true ∧ SeqAt.shaped y = true
@[simp] def wEq (neg : Bool) : W2 := fun x y Φ => match x, y with
  | .int a, .int b => Φ (.bool (if neg then !decide (a = b) else decide (a = b)))
  | .str a, .str b => Φ (.bool (if neg then !decide (a = b) else decide (a = b)))
  | x, y => eqD x y ∧ Φ (.bool (if neg then !PyData.eqv x y else PyData.eqv x y))
def rEqA (K : PySem.W.Frag) : R2 := rOr rEq (rEqD K)
def rNeA (K : PySem.W.Frag) : R2 := rOr rNe (rNeD K)
theorem dec_inj {α β : Type} [DecidableEq α] [DecidableEq β] {f : α → β} (hf : ∀ a b, f a = f b → a = b) (a b : α) : decide (f a = f b) = decide (a = b) := by
  by_cases h : a = b
  · rw [h, decide_eq_true rfl, decide_eq_true rfl]
  · rw [decide_eq_false h, decide_eq_false (fun z => h (hf a b z))]
theorem op2_eq : Op2 K (rEqA K) (wEq false) := ⟨fun {F H x y dx dy} Q Φ s d1 d2 w k => by
  have gen : ∀ b, eqD dx dy → b = PyData.eqv dx dy → Φ (.bool b) → rEqA K x y H Q := fun b e hb q => by
    subst hb
    exact .inr ⟨dx, dy, (d1.mono s).dp (PyData.hasDict_of_canLay _ (SeqAt.canLay_of_shaped e.1)), (d2.mono s).dp (PyData.hasDict_of_canLay _ (SeqAt.canLay_of_shaped e.2)), e.1, e.2, k _ F H _ (Fresh.refl s) (.bl _) q⟩
  cases dx <;> cases dy <;> first
    | (cases d1; cases d2; exact .inl ⟨rfl, by rw [dec_inj (fun a b z => by injection z)]; exact k _ F H _ (Fresh.refl s) (.bl _) w⟩)
    | exact gen _ w.1 rfl w.2⟩
theorem op2_ne : Op2 K (rNeA K) (wEq true) := ⟨fun {F H x y dx dy} Q Φ s d1 d2 w k => by
  have gen : ∀ b, eqD dx dy → b = (!PyData.eqv dx dy) → Φ (.bool b) → rNeA K x y H Q := fun b e hb q => by
    subst hb
    exact .inr ⟨dx, dy, (d1.mono s).dp (PyData.hasDict_of_canLay _ (SeqAt.canLay_of_shaped e.1)), (d2.mono s).dp (PyData.hasDict_of_canLay _ (SeqAt.canLay_of_shaped e.2)), e.1, e.2, k _ F H _ (Fresh.refl s) (.bl _) q⟩
  cases dx <;> cases dy <;> first
    | (cases d1; cases d2; exact .inl ⟨rfl, by rw [dec_inj (fun a b z => by injection z)]; exact k _ F H _ (Fresh.refl s) (.bl _) w⟩)
    | exact gen _ w.1 rfl w.2⟩
theorem opr_eq {X : Cx} (hu : X.A.units + 64 < cLine) : OpR X (compareOp .Eq) (rEqA X.K) := opr_or op_eq (op_eqD hu)
theorem opr_ne {X : Cx} (hu : X.A.units + 64 < cLine) : OpR X (compareOp .NotEq) (rNeA X.K) := opr_or op_ne (op_neD hu)
/-! is None -/
@[simp] def isNon : PyData → Bool
  | .none => true
  | _ => false
theorem isNon_v {F : Hp} {v : V} {d : PyData} (h : Dq K F v d) : decide (v = .non) = isNon d := by
  cases h <;> simp [isNon]
@[simp] def wIsN (neg : Bool) : W2 := fun x y Φ => match y with
  | .none => Φ (.bool (if neg then !isNon x else isNon x))
  | _ => False
theorem op2_isN : Op2 K (fun x y H Q => y = .non ∧ Q (.bl (decide (x = .non))) H) (wIsN false) := ⟨fun {F H x y dx dy} Q Φ s d1 d2 w k => by
  cases dy with
  | none =>
    cases d2
    exact ⟨rfl, by rw [isNon_v d1]; exact k _ F H _ (Fresh.refl s) (.bl _) w⟩
  | _ => exact w.elim⟩
theorem op2_notN : Op2 K (fun x y H Q => y = .non ∧ Q (.bl (!decide (x = .non))) H) (wIsN true) := ⟨fun {F H x y dx dy} Q Φ s d1 d2 w k => by
  cases dy with
  | none =>
    cases d2
    exact ⟨rfl, by rw [isNon_v d1]; exact k _ F H _ (Fresh.refl s) (.bl _) w⟩
  | _ => exact w.elim⟩
/-! in, not in -/
def flatD : PyData → Bool
  | .none => true
  | .bool _ => true
  | .int _ => true
  | .str _ => true
  | _ => false
def eqF : PyData → PyData → Bool
  | .none, .none => true
  | .bool a, .bool b => a == b
  | .bool a, .int b => (if a then 1 else 0) == b
  | .int a, .bool b => a == (if b then 1 else 0)
  | .int a, .int b => a == b
  | .str a, .str b => a == b
  | _, _ => false
def inF (x : PyData) (xs : List PyData) : Bool := xs.any fun y => eqF y x
theorem flat_v {F : Hp} {v : V} {d : PyData} (h : Dq K F v d) (f : flatD d = true) : flatV v = true := by
  cases h <;> first | rfl | cases f
theorem flat_vs {F : Hp} : ∀ {vs : List V} {ds : List PyData}, DqA K F vs ds → ds.all flatD = true → vs.all flatV = true
  | [], [], _, _ => rfl
  | v :: vs, d :: ds, h, f => by
    cases h with
    | cons h1 h2 =>
      rw [List.all_cons, Bool.and_eq_true] at f ⊢
      exact ⟨flat_v h1 f.1, flat_vs h2 f.2⟩
  | [], _ :: _, h, _ => by cases h
  | _ :: _, [], h, _ => by cases h
theorem eqF_v {F : Hp} {v u : V} {d e : PyData} (h : Dq K F v d) (g : Dq K F u e) (f : flatD d = true) (f' : flatD e = true) : eqV v u = eqF d e := by
  cases h <;> cases g <;> first | rfl | cases f | cases f'
theorem inF_v {F : Hp} {v : V} {d : PyData} (h : Dq K F v d) (f : flatD d = true) : ∀ {vs : List V} {ds : List PyData}, DqA K F vs ds → ds.all flatD = true → inV v vs = inF d ds
  | [], [], _, _ => rfl
  | u :: vs, e :: ds, g, a => by
    cases g with
    | cons g1 g2 =>
      rw [List.all_cons, Bool.and_eq_true] at a
      have ih := inF_v h f g2 a.2
      unfold inV inF at ih ⊢
      rw [List.any_cons, List.any_cons, eqF_v g1 h a.1 f, ih]
  | [], _ :: _, g, _ => by cases g
  | _ :: _, [], g, _ => by cases g
def rSign : R2 := fun x y H Q => ∃ (c : Nat) (z : Str), x = .str ⟨#[c]⟩ ∧ y = .str z ∧ Q (.bl (decide (c ∈ z.cps.toList))) H
def rNSign : R2 := fun x y H Q => ∃ (c : Nat) (z : Str), x = .str ⟨#[c]⟩ ∧ y = .str z ∧ Q (.bl (!decide (c ∈ z.cps.toList))) H
@[simp] def wIn (neg : Bool) : W2 := fun x y Φ => match y with
  | .list xs => (flatD x = true ∧ xs.all flatD = true) ∧ Φ (.bool (if neg then !inF x xs else inF x xs))
  | .tuple xs => (flatD x = true ∧ xs.all flatD = true) ∧ Φ (.bool (if neg then !inF x xs else inF x xs))
  | .str z => match x with
    | .str s => ∃ c, s = ⟨#[c]⟩ ∧ Φ (.bool (if neg then !decide (c ∈ z.cps.toList) else decide (c ∈ z.cps.toList)))
    | _ => False
  | _ => False
theorem op2_in : Op2 K (rOr (rIn K false) rSign) (wIn false) := ⟨fun {F H x y dx dy} Q Φ s d1 d2 w k => by
  cases dy with
  | list xs =>
    cases d2 with
    | lst h1 h2 => exact .inl ⟨_, _, rfl, .inl (SqL.of (s _ _ h1)), flat_v d1 w.1.1, flat_vs h2 w.1.2, by rw [inF_v d1 w.1.1 h2 w.1.2]; exact k _ F H _ (Fresh.refl s) (.bl _) w.2⟩
  | tuple xs =>
    cases d2 with
    | tup h1 h2 => exact .inl ⟨_, _, rfl, .inr (same_sqt s h1), flat_v d1 w.1.1, flat_vs h2 w.1.2, by rw [inF_v d1 w.1.1 h2 w.1.2]; exact k _ F H _ (Fresh.refl s) (.bl _) w.2⟩
  | str z =>
    cases dx with
    | str t =>
      cases d1
      cases d2
      obtain ⟨c, rfl, w⟩ := w
      exact .inr ⟨c, z, rfl, rfl, k _ F H _ (Fresh.refl s) (.bl _) w⟩
    | _ => exact w.elim
  | _ => exact w.elim⟩
theorem op2_notIn : Op2 K (rOr (rIn K true) rNSign) (wIn true) := ⟨fun {F H x y dx dy} Q Φ s d1 d2 w k => by
  cases dy with
  | list xs =>
    cases d2 with
    | lst h1 h2 => exact .inl ⟨_, _, rfl, .inl (SqL.of (s _ _ h1)), flat_v d1 w.1.1, flat_vs h2 w.1.2, by rw [inF_v d1 w.1.1 h2 w.1.2]; exact k _ F H _ (Fresh.refl s) (.bl _) w.2⟩
  | tuple xs =>
    cases d2 with
    | tup h1 h2 => exact .inl ⟨_, _, rfl, .inr (same_sqt s h1), flat_v d1 w.1.1, flat_vs h2 w.1.2, by rw [inF_v d1 w.1.1 h2 w.1.2]; exact k _ F H _ (Fresh.refl s) (.bl _) w.2⟩
  | str z =>
    cases dx with
    | str t =>
      cases d1
      cases d2
      obtain ⟨c, rfl, w⟩ := w
      exact .inr ⟨c, z, rfl, rfl, k _ F H _ (Fresh.refl s) (.bl _) w⟩
    | _ => exact w.elim
  | _ => exact w.elim⟩
theorem opr_in {X : Cx} : OpR X (compareOp .In) (rOr (rIn X.K false) rSign) := opr_or op_in_seq op_in_sign
theorem opr_notIn {X : Cx} : OpR X (compareOp .NotIn) (rOr (rIn X.K true) rNSign) := opr_or op_notIn_seq op_notIn_sign
/-! places -/
@[simp] def wIx : W2 := fun x y Φ => match x, y with
  | .list xs, .int k => optP (atI xs k) Φ
  | .tuple xs, .int k => optP (atI xs k) Φ
  | .str z, .int k => z.length ≤ sizeLine ∧ optP (atI z.cps.toList k) fun c => Φ (.str ⟨#[c]⟩)
  | _, _ => False
theorem optP_of {α : Type} {o : Option α} {k : α → Prop} (h : optP o k) : ∃ a, o = some a ∧ k a := by
  cases o with
  | none => exact h.elim
  | some a => exact ⟨a, rfl, h⟩
theorem op2_ix : Op2 K (rIx K) wIx := ⟨fun {F H x y dx dy} Q Φ s d1 d2 w k => by
  cases dy with
  | int i =>
    cases d2
    cases dx with
    | list xs =>
      cases d1 with
      | lst h1 h2 =>
        obtain ⟨d, e, w⟩ := optP_of w
        obtain ⟨v, a, b⟩ := atI_up h2 e
        exact .inl ⟨_, _, i, v, rfl, rfl, SqL.of (s _ _ h1), a, k v F H d (Fresh.refl s) b w⟩
    | tuple xs =>
      cases d1 with
      | tup h1 h2 =>
        obtain ⟨d, e, w⟩ := optP_of w
        obtain ⟨v, a, b⟩ := atI_up h2 e
        exact .inr (.inl ⟨_, _, i, v, rfl, rfl, same_sqt s h1, a, k v F H d (Fresh.refl s) b w⟩)
    | str z =>
      cases d1
      obtain ⟨c, e, w2⟩ := optP_of w.2
      exact .inr (.inr ⟨z, i, c, rfl, rfl, w.1, e, k _ F H _ (Fresh.refl s) (.str _) w2⟩)
    | _ => exact w.elim
  | _ =>
    cases dx <;> exact w.elim⟩
end
/-! slices -/
section
variable {X : Cx} {e : Expr} {lo hi : Option Expr} {pos p2 : Pos}
abbrev DO := S → (Option Int → S → Prop) → Prop
def tO (K : PySem.W.Frag) (w : DO) : TO := fun σ H Q => ∃ G P F s Φ, Rep K G P F H σ s ∧ w s Φ ∧ ∀ o F' H' s', Rep K G P F' H' σ s' → Same F F' → Φ o s' → Q o H'
abbrev XO (X : Cx) (e : Option Expr) (w : DO) : Prop := PO X e (tO X.K w)
theorem po_imp {o : Option Expr} {t t' : TO} (h : PO X o t) (i : ∀ σ H Q, t' σ H Q → t σ H Q) : PO X o t' := ⟨fun pins s σ H Q I q => h.run pins s σ H Q I (i _ _ _ q)⟩
@[simp] def wNoP : DO := fun s Φ => Φ none s
@[simp] def wPart (w : DE) : DO := fun s Φ => w s fun x s1 => match x with
  | .int i => Φ (some i) s1
  | _ => False
theorem xo_none : XO X none wNoP := po_imp po_none fun σ H Q h => by
  obtain ⟨G, P, F, s, Φ, R, h, k⟩ := h
  exact k none F H s R (Same.refl F) h
theorem xo_some {w : DE} (h : XE X e w) : XO X (some e) (wPart w) := po_imp (po_some h) fun σ H Q h => by
  obtain ⟨G, P, F, s, Φ, R, h, k⟩ := h
  refine ⟨G, P, F, s, _, R, h, fun v F1 H1 s1 x R1 e1 d1 q => ?_⟩
  cases x with
  | int i =>
    cases d1
    exact ⟨i, rfl, k (some i) F1 H1 s1 R1 e1 q⟩
  | _ => exact q.elim
def cutD (xs : List PyData) (lo hi : Option Int) : List PyData := (xs.drop (HT.sIx xs.length 0 lo)).take (HT.sIx xs.length xs.length hi - HT.sIx xs.length 0 lo)
theorem cutD_up {K : PySem.W.Frag} {F : Hp} {vs : List V} {xs : List PyData} (h : DqA K F vs xs) (lo hi : Option Int) : DqA K F (cutV vs lo hi) (cutD xs lo hi) := by
  unfold cutV cutD
  rw [h.length]
  exact (h.drop _).take _
/-- a list's slice: a new list -/
@[simp] def wSlL (w : DE) (wl wh : DO) : DA := fun s Φ => w s fun x s1 => wl s1 fun l s2 => wh s2 fun u s3 => match x with
  | .list xs => Φ (cutD xs l u) s3
  | _ => False
theorem xl_slice {w : DE} {wl wh : DO} (he : XE X e w) (hl : XO X lo wl) (hh : XO X hi wh) : XL X (.Subscript e (.Slice lo hi none p2) pos) (wSlL w wl wh) := pe_imp (pe_slice sl_list he hl hh) fun σ H Q h => by
  obtain ⟨G, P, F, s, Φ, R, h, k⟩ := h
  refine ⟨G, P, F, s, _, R, h, fun v F1 H1 s1 x R1 e1 d1 q => ⟨G, P, F1, s1, _, R1, q, fun l F2 H2 s2 R2 e2 q2 => ⟨G, P, F2, s2, _, R2, q2, fun u F3 H3 s3 R3 e3 q3 => ?_⟩⟩⟩
  cases x with
  | list xs =>
    cases d1.mono (e2.trans e3) with
    | lst h1 h2 =>
      refine ⟨_, _, rfl, SqL.of (R3.same _ _ h1), fun p hp => ?_⟩
      obtain ⟨R4, n⟩ := nu_new (o := .lst (cutV _ l u)) R3 hp
      exact k p _ F3 _ s3 _ R4 ((e1.trans e2).trans e3) n upd_same (cutD_up h2 l u) q3
  | _ => exact q3.elim
/-- a text's slice, or a list's -/
@[simp] def wSl (w : DE) (wl wh : DO) : DE := fun s Φ => w s fun x s1 => wl s1 fun l s2 => wh s2 fun u s3 => match x with
  | .list xs => Φ (.list (cutD xs l u)) s3
  | .str z => z.length ≤ sizeLine ∧ Φ (.str (cutS z l u)) s3
  | _ => False
theorem xe_slice {w : DE} {wl wh : DO} (he : XE X e w) (hl : XO X lo wl) (hh : XO X hi wh) : XE X (.Subscript e (.Slice lo hi none p2) pos) (wSl w wl wh) := pe_imp (pe_slice (SlR.or sl_list sl_str) he hl hh) fun σ H Q h => by
  obtain ⟨G, P, F, s, Φ, R, h, k⟩ := h
  refine ⟨G, P, F, s, _, R, h, fun v F1 H1 s1 x R1 e1 d1 q => ⟨G, P, F1, s1, _, R1, q, fun l F2 H2 s2 R2 e2 q2 => ⟨G, P, F2, s2, _, R2, q2, fun u F3 H3 s3 R3 e3 q3 => ?_⟩⟩⟩
  cases x with
  | list xs =>
    cases d1.mono (e2.trans e3) with
    | @lst a0 vs0 _ h1 h2 =>
      refine .inl ⟨_, _, rfl, SqL.of (R3.same _ _ h1), fun p hp => ?_⟩
      have f := Fresh.new (o := .lst (cutV vs0 l u)) R3.same hp
      exact k _ _ _ s3 _ (R3.fresh f) (((e1.trans e2).trans e3).trans f.ff) (.lst upd_same ((cutD_up h2 l u).mono f.ff)) q3
  | str z =>
    cases d1
    exact .inr ⟨z, rfl, q3.1, k _ F3 H3 s3 _ R3 ((e1.trans e2).trans e3) (.str _) q3.2⟩
  | _ => exact q3.elim
end
/-! calls of built-ins -/
section
variable {K : PySem.W.Frag}
@[simp] def wN1 (g : PyData → (PyData → Prop) → Prop) : WN := fun ds Φ => match ds with
  | [x] => g x Φ
  | _ => False
@[simp] def wN2 (g : PyData → PyData → (PyData → Prop) → Prop) : WN := fun ds Φ => match ds with
  | [x, y] => g x y Φ
  | _ => False
theorem dqa1 {F : Hp} {vs : List V} {x : PyData} (h : DqA K F vs [x]) : ∃ v, vs = [v] ∧ Dq K F v x := by
  cases h with
  | cons h1 h2 =>
    cases h2
    exact ⟨_, rfl, h1⟩
theorem dqa2 {F : Hp} {vs : List V} {x y : PyData} (h : DqA K F vs [x, y]) : ∃ v u, vs = [v, u] ∧ Dq K F v x ∧ Dq K F u y := by
  cases h with
  | cons h1 h2 =>
    obtain ⟨u, rfl, h3⟩ := dqa1 h2
    exact ⟨_, _, rfl, h1, h3⟩
theorem opN1 {r : List V → Hp → VK → Prop} {g : PyData → (PyData → Prop) → Prop} (h : ∀ (F H : Hp) (v : V) (x : PyData) (Q : VK) (Φ : PyData → Prop), Same F H → Dq K F v x → g x Φ → (∀ v F' H' d, Fresh F H F' H' → Dq K F' v d → Φ d → Q v H') → r [v] H Q) : OpN K r (wN1 g) :=
  ⟨fun {F H xs ds} Q Φ s d w k => by
    match ds, d, w with
    | [x], d, w =>
      obtain ⟨v, rfl, d1⟩ := dqa1 d
      exact h F H v x Q Φ s d1 w k⟩
theorem opN2 {r : List V → Hp → VK → Prop} {g : PyData → PyData → (PyData → Prop) → Prop} (h : ∀ (F H : Hp) (v u : V) (x y : PyData) (Q : VK) (Φ : PyData → Prop), Same F H → Dq K F v x → Dq K F u y → g x y Φ → (∀ v F' H' d, Fresh F H F' H' → Dq K F' v d → Φ d → Q v H') → r [v, u] H Q) : OpN K r (wN2 g) :=
  ⟨fun {F H xs ds} Q Φ s d w k => by
    match ds, d, w with
    | [x, y], d, w =>
      obtain ⟨v, u, rfl, d1, d2⟩ := dqa2 d
      exact h F H v u x y Q Φ s d1 d2 w k⟩
@[simp] def gLen : PyData → (PyData → Prop) → Prop
  | .list xs, Φ => Φ (.int xs.length)
  | .tuple xs, Φ => Φ (.int xs.length)
  | .str z, Φ => z.length ≤ sizeLine ∧ Φ (.int z.length)
  | .dict [(.int lo, .int hi)], Φ => (small62 lo ∧ small62 hi) ∧ Φ (.int ((hi - lo).toNat : Nat))
  | _, _ => False
theorem call_lenA {X : Cx} : CallR X (.builtin "len") (fun xs H Q => (∃ x n, xs = [x] ∧ LenV X.K x H n ∧ Q (.int n) H) ∨ ∃ a lo hi, xs = [.ref a] ∧ H a = some (.rng lo hi) ∧ (small62 lo ∧ small62 hi) ∧ Q (.int ((hi - lo).toNat : Nat)) H) := by
  intro pins s σ H xs us Q I r h
  rcases h with h | ⟨a, lo, hi, rfl, ha, ⟨⟨h1, h2⟩, h3, h4⟩, q⟩
  · exact call_len pins s σ H xs us Q I r h
  · obtain ⟨u, rfl, rx⟩ := vals1 r
    obtain rfl : u = Value.ref a := rx
    obtain ⟨t1, t2, t3, ho⟩ := I.hok a _ ha
    refine call_len_range (n := (hi - lo).toNat) ho ?_ (by omega) ⟨.int ((hi - lo).toNat : Nat), H, I.tok _, ⟨_, rfl⟩, q⟩
    rw [rangeSize_one]
    split <;> omega
theorem opn_len : OpN K (fun xs H Q => (∃ x n, xs = [x] ∧ LenV K x H n ∧ Q (.int n) H) ∨ ∃ a lo hi, xs = [.ref a] ∧ H a = some (.rng lo hi) ∧ (small62 lo ∧ small62 hi) ∧ Q (.int ((hi - lo).toNat : Nat)) H) (wN1 gLen) := opN1 fun F H v x Q Φ s d w k => by
  match x, d, w with
  | .list xs, .lst h1 h2, w => exact .inl ⟨_, xs.length, rfl, .inl ⟨_, SqL.of (s _ _ h1), h2.length.symm⟩, k _ F H _ (Fresh.refl s) (.int _) w⟩
  | .tuple xs, .tup h1 h2, w => exact .inl ⟨_, xs.length, rfl, .inr ⟨_, same_sqt s h1, h2.length.symm⟩, k _ F H _ (Fresh.refl s) (.int _) w⟩
  | .str z, .str _, w => exact .inl ⟨_, z.length, rfl, ⟨w.1, rfl⟩, k _ F H _ (Fresh.refl s) (.int _) w.2⟩
  | .dict [(.int lo, .int hi)], .rng h1, w => exact .inr ⟨_, lo, hi, rfl, s _ _ h1, w.1, k _ F H _ (Fresh.refl s) (.int _) w.2⟩
  | .dict [(.none, .int _)], .er a, w => exact w.elim
  | .dict [(.str _, .list _)], .xo _ _ _ _, w => exact w.elim
  | .dict [(.int _, .int _), (.none, .list _)], .ef _ _, w => exact w.elim
  | .dict [(.bool true, .list _), (.none, .list _)], .dk _ _, w => exact w.elim
/-- range(n), kept -/
@[simp] def gRng : PyData → (PyData → Prop) → Prop := fun x Φ => match x with
  | .int i => Φ (.dict [(.int 0, .int i)])
  | _ => False
theorem cr_range1 {X : Cx} : CallR X (.type "range") (fun vs H Q => ∃ j, vs = [V.int j] ∧ ∀ p, H p = none → Q (.ref p) (upd H p (.rng 0 j))) := by
  intro pins s σ H vs us Q I r h
  obtain ⟨j, rfl, q⟩ := h
  obtain ⟨u1, rfl, rj⟩ := vals1 r
  obtain ⟨t, rfl⟩ := rj
  refine call_range_1 ⟨.ref s.heap.objs.size, upd H s.heap.objs.size (.rng 0 j), I.laid (fun b o e => Heap.get?_push_of_some _ e) (Nat.le_refl _) ?_, rfl, q _ (I.hok.fresh (Nat.le_refl _))⟩
  exact ⟨_, _, _, Heap.get?_push_size _ rfl⟩
theorem opn_rng : OpN K (fun vs H Q => ∃ j, vs = [V.int j] ∧ ∀ p, H p = none → Q (.ref p) (upd H p (.rng 0 j))) (wN1 gRng) := opN1 fun F H v x Q Φ s d w k => by
  cases x with
  | int i =>
    cases d
    refine ⟨i, rfl, fun p hp => ?_⟩
    exact k _ _ _ _ (Fresh.new (o := .rng 0 i) s hp) (.rng upd_same) w
  | _ => exact w.elim
/-- a test by truth -/
@[simp] def wTru (w : DE) : DT := fun s Φ => w s fun x s1 => match x with
  | .bool b => Φ b s1
  | .none => Φ false s1
  | .int i => Φ (i != 0) s1
  | .str y => y.length ≤ sizeLine ∧ Φ ((y.length : Int) != 0) s1
  | .list xs => Φ (!xs.isEmpty) s1
  | .tuple xs => Φ (!xs.isEmpty) s1
  | _ => False
theorem dqa_empty {F : Hp} {vs : List V} {xs : List PyData} (d : DqA K F vs xs) : vs.isEmpty = xs.isEmpty := by
  cases d <;> rfl
theorem tru_of {w : DE} (σ : L2.St) (H : Hp) (Q : Bool → Hp → Prop) (h : tT K (wTru w) σ H Q) : tE K w σ H fun x H1 => ∃ k, TruV K x H1 k ∧ Q k H1 := by
  obtain ⟨G, P, F, s, Φ, R, h, k⟩ := h
  refine ⟨G, P, F, s, _, R, h, fun x F1 H1 s1 dx R1 e1 d1 h1 => ?_⟩
  match dx, d1, h1 with
  | .bool b, .bl _, h1 => exact ⟨b, rfl, k b F1 H1 s1 R1 e1 h1⟩
  | .none, .non, h1 => exact ⟨false, rfl, k _ F1 H1 s1 R1 e1 h1⟩
  | .int i, .int _, h1 => exact ⟨_, rfl, k _ F1 H1 s1 R1 e1 h1⟩
  | .str y, .str _, h1 => exact ⟨_, ⟨h1.1, rfl⟩, k _ F1 H1 s1 R1 e1 h1.2⟩
  | .list xs, .lst a b, h1 => exact ⟨_, .inl ⟨_, SqL.of (R1.same _ _ a), by rw [dqa_empty b]⟩, k _ F1 H1 s1 R1 e1 h1⟩
  | .tuple xs, .tup a b, h1 => exact ⟨_, .inr (.inl ⟨_, same_sqt R1.same a, by rw [dqa_empty b]⟩), k _ F1 H1 s1 R1 e1 h1⟩
theorem xt_tru {X : Cx} {e : Expr} {w : DE} (h : XE X e w) (he : ∀ whole, isTrue e X.env whole = (do let v ← whole; standAt e.pos; holding [v] (truthy v)) := by intro _; rfl) : XT X e (wTru w) := pt_imp (pt_truth h he) tru_of
@[simp] def gInt : PyData → (PyData → Prop) → Prop := fun x Φ => match x with
  | .int i => Φ (.int i)
  | .bool b => Φ (.int (if b then 1 else 0))
  | _ => False
theorem opn_int : OpN K (fun xs H Q => (∃ i, xs = [.int i] ∧ Q (.int i) H) ∨ ∃ k, xs = [.bl k] ∧ Q (.int (if k then 1 else 0)) H) (wN1 gInt) := opN1 fun F H v x Q Φ s d w k => by
  cases x with
  | int i =>
    cases d
    exact .inl ⟨i, rfl, k _ F H _ (Fresh.refl s) (.int _) w⟩
  | bool b =>
    cases d
    exact .inr ⟨b, rfl, k _ F H _ (Fresh.refl s) (.int _) w⟩
  | _ => exact w.elim
@[simp] def gStr : PyData → (PyData → Prop) → Prop := fun x Φ => match x with
  | .int i => i.natAbs.log2 < 1920 ∧ Φ (.str (toString i))
  | _ => False
theorem opn_str : OpN K (fun xs H Q => ∃ i, xs = [.int i] ∧ i.natAbs.log2 < 1920 ∧ Q (.str (toString i)) H) (wN1 gStr) := opN1 fun F H v x Q Φ s d w k => by
  cases x with
  | int i =>
    cases d
    exact ⟨i, rfl, w.1, k _ F H _ (Fresh.refl s) (.str _) w.2⟩
  | _ => exact w.elim
@[simp] def gMax : PyData → PyData → (PyData → Prop) → Prop := fun x y Φ => match x, y with
  | .int i, .int j => Φ (.int (if j > i then j else i))
  | _, _ => False
@[simp] def gMin : PyData → PyData → (PyData → Prop) → Prop := fun x y Φ => match x, y with
  | .int i, .int j => Φ (.int (if j < i then j else i))
  | _, _ => False
theorem opn_max2 : OpN K (fun xs H Q => ∃ i j, xs = [.int i, .int j] ∧ Q (.int (if j > i then j else i)) H) (wN2 gMax) := opN2 fun F H v u x y Q Φ s d1 d2 w k => by
  cases x with
  | int i =>
    cases y with
    | int j =>
      cases d1
      cases d2
      exact ⟨i, j, rfl, k _ F H _ (Fresh.refl s) (.int _) w⟩
    | _ => exact w.elim
  | _ => exact w.elim
theorem opn_min2 : OpN K (fun xs H Q => ∃ i j, xs = [.int i, .int j] ∧ Q (.int (if j < i then j else i)) H) (wN2 gMin) := opN2 fun F H v u x y Q Φ s d1 d2 w k => by
  cases x with
  | int i =>
    cases y with
    | int j =>
      cases d1
      cases d2
      exact ⟨i, j, rfl, k _ F H _ (Fresh.refl s) (.int _) w⟩
    | _ => exact w.elim
  | _ => exact w.elim
/-- list(x) as data -/
def signV (z : Str) : List V := z.cps.toList.map fun c => V.str ⟨#[c]⟩
theorem signV_vals : ∀ (cs : List Nat) (us : List Value), us.length = cs.length → (∀ (j c : Nat), cs[j]? = some c → ∃ t, us[j]? = some (Value.str ⟨#[c]⟩ t)) → Vals (cs.map fun c => V.str ⟨#[c]⟩) us
  | [], [], _, _ => .nil
  | c :: cs, u :: us, hl, h => by
    obtain ⟨t, ht⟩ := h 0 c rfl
    cases ht
    exact .cons ⟨t, rfl⟩ (signV_vals cs us (by simpa using hl) fun j c hj => by simpa using h (j + 1) c (by simpa using hj))
  | [], _ :: _, hl, _ => by simp at hl
  | _ :: _, [], hl, _ => by simp at hl
theorem signV_dq {K : PySem.W.Frag} {F : Hp} (z : Str) : DqA K F (signV z) (signsOf z) := by
  unfold signV signsOf
  induction z.cps.toList with
  | nil => exact .nil
  | cons c cs ih => exact .cons (.str _) ih
theorem cr_listA {X : Cx} {k : Nat} (hr : Room k X.A) : CallR X (.type "list") (fun xs H Q => (∃ p ys, xs = [.ref p] ∧ (SqL X.K H p ys ∨ SqT X.K H p ys) ∧ ∀ l, H l = none → Q (.ref l) (upd H l (.lst ys))) ∨ ∃ z, xs = [.str z] ∧ z.length ≤ sizeLine ∧ ∀ l, H l = none → Q (.ref l) (upd H l (.lst (signV z)))) := by
  intro pins s σ H xs us Q I r h
  rcases h with h | ⟨z, rfl, hz, q⟩
  · exact call_list_of pins s σ H xs us Q I r h
  · obtain ⟨u, rfl, rx⟩ := vals1 r
    obtain ⟨t, rfl⟩ := rx
    refine call_list_str hr.hd z t (fun h' tk acc' c' kp e hi => ?_) hz
    have hl : acc'.toList.length = z.cps.toList.length := by rw [Array.length_toList, Array.length_toList, hi.1]
    have hv : Vals (signV z) acc'.toList := signV_vals _ _ hl fun j c hj => by
      have hlt : j < acc'.size := by
        have := (List.getElem?_eq_some_iff.mp hj).1
        rw [← hl, Array.length_toList] at this
        exact this
      obtain ⟨c', u, h1, h2⟩ := hi.2 j acc'[j] (Array.getElem?_eq_getElem hlt)
      rw [Array.getElem?_toList] at hj ⊢
      rw [hj] at h1
      cases h1
      exact ⟨u, by rw [Array.getElem?_eq_getElem hlt, h2]⟩
    have hv2 : (signV z).length ≤ sizeLine := by
      unfold signV
      rw [List.length_map, Array.length_toList]
      exact hz
    refine ⟨.ref s.heap.objs.size, _, I.laid (t' := tk) kp (Nat.le_refl _) (show ObjOk X.prog X.w _ h' _ (.lst (signV z)) from ⟨hv2, acc'.toList, c', hv, by rw [Array.toArray_toList]; exact e⟩), rfl, q _ (I.hok.fresh (Nat.le_refl _))⟩
@[simp] def gList : PyData → (PyData → Prop) → Prop := fun x Φ => match x with
  | .list xs => Φ (.list xs)
  | .tuple xs => Φ (.list xs)
  | .str z => z.length ≤ sizeLine ∧ Φ (.list (signsOf z))
  | _ => False
theorem opn_list : OpN K (fun xs H Q => (∃ p ys, xs = [.ref p] ∧ (SqL K H p ys ∨ SqT K H p ys) ∧ ∀ l, H l = none → Q (.ref l) (upd H l (.lst ys))) ∨ ∃ z, xs = [.str z] ∧ z.length ≤ sizeLine ∧ ∀ l, H l = none → Q (.ref l) (upd H l (.lst (signV z)))) (wN1 gList) := opN1 fun F H v x Q Φ s d w k => by
  cases x with
  | list xs =>
    cases d with
    | @lst a0 vs0 _ h1 h2 =>
      refine .inl ⟨_, _, rfl, .inl (SqL.of (s _ _ h1)), fun l hl => ?_⟩
      have f := Fresh.new (o := .lst vs0) s hl
      exact k _ _ _ _ f (.lst upd_same (h2.mono f.ff)) w
  | tuple xs =>
    cases d with
    | @tup a0 vs0 _ h1 h2 =>
      refine .inl ⟨_, _, rfl, .inr (same_sqt s h1), fun l hl => ?_⟩
      have f := Fresh.new (o := .lst vs0) s hl
      exact k _ _ _ _ f (.lst upd_same (h2.mono f.ff)) w
  | str z =>
    cases d
    refine .inr ⟨_, rfl, w.1, fun l hl => ?_⟩
    have f := Fresh.new (o := .lst (signV z)) s hl
    exact k _ _ _ _ f (.lst upd_same (signV_dq z)) w.2
  | _ => exact w.elim
@[simp] def gTuple : PyData → (PyData → Prop) → Prop := fun x Φ => match x with
  | .list xs => Φ (.tuple xs)
  | .tuple xs => Φ (.tuple xs)
  | _ => False
theorem opn_tuple : OpN K (fun xs H Q => ∃ p ys, xs = [.ref p] ∧ ((SqL K H p ys ∧ ∀ l, H l = none → Q (.ref l) (upd H l (.tup ys))) ∨ (SqT K H p ys ∧ Q (.ref p) H))) (wN1 gTuple) := opN1 fun F H v x Q Φ s d w k => by
  cases x with
  | list xs =>
    cases d with
    | @lst a0 vs0 _ h1 h2 =>
      refine ⟨_, _, rfl, .inl ⟨SqL.of (s _ _ h1), fun l hl => ?_⟩⟩
      have f := Fresh.new (o := .tup vs0) s hl
      exact k _ _ _ _ f (.tup (SqT.of upd_same) (h2.mono f.ff)) w
  | tuple xs =>
    cases d with
    | tup h1 h2 => exact ⟨_, _, rfl, .inr ⟨same_sqt s h1, k _ F H _ (Fresh.refl s) (.tup h1 h2) w⟩⟩
  | _ => exact w.elim
/-- sums of ints, any, all: of lists of the kind -/
def gSum : PyData → (PyData → Prop) → Prop := fun x Φ => ∃ ns : List Int, x = .list (ns.map .int) ∧ Φ (.int ns.sum)
def gAny : PyData → (PyData → Prop) → Prop := fun x Φ => ∃ ns : List Bool, x = .list (ns.map .bool) ∧ Φ (.bool (ns.any id))
def gAll : PyData → (PyData → Prop) → Prop := fun x Φ => ∃ ns : List Bool, x = .list (ns.map .bool) ∧ Φ (.bool (ns.all id))
theorem opn_sum : OpN K (rSum K) (wN1 gSum) := opN1 fun F H v x Q Φ s d w k => by
  obtain ⟨ns, rfl, w⟩ := w
  cases d with
  | lst h1 h2 =>
    have e := h2.ints
    subst e
    exact ⟨_, ns, rfl, SqL.of (s _ _ h1), k _ F H _ (Fresh.refl s) (.int _) w⟩
theorem opn_any : OpN K (rAny K) (wN1 gAny) := opN1 fun F H v x Q Φ s d w k => by
  obtain ⟨ns, rfl, w⟩ := w
  cases d with
  | lst h1 h2 =>
    have e := h2.bls
    subst e
    exact ⟨_, ns, rfl, SqL.of (s _ _ h1), k _ F H _ (Fresh.refl s) (.bl _) w⟩
theorem opn_all : OpN K (rAll K) (wN1 gAll) := opN1 fun F H v x Q Φ s d w k => by
  obtain ⟨ns, rfl, w⟩ := w
  cases d with
  | lst h1 h2 =>
    have e := h2.bls
    subst e
    exact ⟨_, ns, rfl, SqL.of (s _ _ h1), k _ F H _ (Fresh.refl s) (.bl _) w⟩
/-- the greatest of a list of ints -/
def gMaxL : PyData → (PyData → Prop) → Prop := fun x Φ => ∃ ns : List Int, x = .list (ns.map .int) ∧ 0 < ns.length ∧ ∀ m, m ∈ ns → (∀ y, y ∈ ns → y ≤ m) → Φ (.int m)
theorem opn_maxL : OpN K (rMax K) (wN1 gMaxL) := opN1 fun F H v x Q Φ s d w k => by
  obtain ⟨ns, rfl, hl, w⟩ := w
  cases d with
  | lst h1 h2 =>
    have e := h2.ints
    subst e
    exact ⟨_, ns, rfl, SqL.of (s _ _ h1), hl, fun m hm hy => k _ F H _ (Fresh.refl s) (.int _) (w m hm hy)⟩
end
section
variable {X : Cx} {o e : Expr} {pos : Pos}
/-- sep.join(list of texts) -/
@[simp] def wJoin (wo we : DE) : DE := fun s Φ => wo s fun a s1 => match a with
  | .str a => we s1 fun y s2 => ∃ ys : List Str, y = .list (ys.map .str) ∧ (ys.map (·.length)).sum + ys.length * a.length ≤ 16777216 ∧ Φ (.str (Txt.join a ys)) s2
  | _ => False
theorem xe_join {apos : Pos} {wo we : DE} (ho : XE X o wo) (he : XE X e we) (hs : starEach [e] X.env = [(false, eval e X.env)] := by rfl) (hbase : attributeBase o "join" X.env (eval o X.env) = eval o X.env := by rfl) (hline : (apos.endLine == pos.line) = true := by rfl) :
    XE X (.Call (.Attribute o "join" apos) [e] [] pos) (wJoin wo we) := pe_imp (pe_join ho he hs hbase hline) fun σ H Q h => by
  obtain ⟨G, P, F, s, Φ, R, h, k⟩ := h
  refine ⟨G, P, F, s, _, R, h, fun v F1 H1 s1 x R1 e1 d1 q => ?_⟩
  cases x with
  | str a =>
    cases d1
    refine ⟨⟨a, rfl⟩, G, P, F1, s1, _, R1, q, fun u F2 H2 s2 y R2 e2 d2 q2 => ?_⟩
    obtain ⟨ys, rfl, hz, q2⟩ := q2
    cases d2 with
    | lst h1 h2 =>
      have e := h2.strs
      subst e
      exact ⟨a, _, ys, rfl, rfl, .inl (SqL.of (R2.same _ _ h1)), hz, k _ F2 H2 s2 _ R2 (e1.trans e2) (.str _) q2⟩
  | _ => exact q.elim
/-- isinstance(e, T) -/
@[simp] def kindD : PyData → String
  | .none => "NoneType"
  | .bool _ => "bool"
  | .int _ => "int"
  | .str _ => "str"
  | .list _ => "list"
  | .tuple _ => "tuple"
  | .dict _ => "range"
@[simp] def wIsI (T : String) (w : DE) : DE := fun s Φ => w s fun x s1 => match x with
  | .dict _ => False
  | x => optP (kitB (kindD x) T) fun b => Φ (.bool b) s1
theorem tyx_of {K : PySem.W.Frag} {F H : Hp} {v : V} {x : PyData} (s : Same F H) (d : Dq K F v x) (nr : ∀ kvs, x ≠ .dict kvs) : TyX K H v (.type (kindD x)) := by
  cases d with
  | non => exact .base .non
  | bl b => exact .base (.bl b)
  | int i => exact .base (.int i)
  | str z => exact .base (.str z)
  | lst h1 h2 => exact .base (.lst (s _ _ h1))
  | tup h1 h2 =>
    rcases h1 with (h | ⟨o, h⟩) | ⟨o, its, n, h, c, _⟩
    · exact .base (.tup (s _ _ h))
    · exact .fTuple (s _ _ h)
    · exact .kTuple h c
  | rng h => exact (nr _ rfl).elim
  | er a => exact (nr _ rfl).elim
  | xo _ _ _ _ => exact (nr _ rfl).elim
  | ef _ _ => exact (nr _ rfl).elim
  | dk _ _ => exact (nr _ rfl).elim
theorem xe_isI {T : Str} {n : String} {p p1 : Pos} {w : DE} (hg : Gl X "isinstance") (hm : X.mg "isinstance" = none) (hgT : Gl X T) (hmT : X.mg T = none) (hvT : bootBuiltins T = some (.type n)) (h : XE X e w) (hn : T ≠ "__name__" := by decide) (hd : (T == ("__debug__" : Str)) = false := by decide)
    (he : starEach [e, .Name T p1] X.env = (false, eval e X.env) :: starEach [.Name T p1] X.env := by rfl) (he2 : starEach [.Name T p1] X.env = (false, eval (.Name T p1) X.env) :: starEach [] X.env := by rfl) (hpl : (backTo pos (starEach [.Name T p1] X.env)).any (·.1) = false := by rfl) :
    XE X (.Call (.Name "isinstance" p) [e, .Name T p1] [] pos) (wIsI n w) :=
  pe_imp (pe_callB call_isi hg hm (by decide +kernel) (pa_cons h (pa_cons (pe_bltn (v := .ty n) hgT hmT hvT rfl hn hd) pa_nil he2) he) (by decide) (by decide) he hpl) fun σ H Q h => by
    obtain ⟨G, P, F, s, Φ, R, h, k⟩ := h
    refine ⟨G, P, F, s, _, R, h, fun v F1 H1 s1 x R1 e1 d1 q => ?_⟩
    have q2 : (∀ kvs, x ≠ .dict kvs) ∧ optP (kitB (kindD x) n) fun b => Φ (.bool b) s1 := by
      cases x with
      | dict _ => exact q.elim
      | _ => exact ⟨fun _ z => (by cases z), q⟩
    obtain ⟨b, hb, q⟩ := optP_of q2.2
    exact ⟨v, .ty n, _, _, b, rfl, .ty n, tyx_of R1.same d1 q2.1, kit_ty hb, k _ F1 H1 s1 _ R1 e1 (.bl b) q⟩
end
end DL
/-! DL, seventh part: the script, the pool, new lists handed back, repr, the law. -/
namespace DL
open PySem PySem.Spec PyProof.Rows L2

section
variable {X : Cx} {pos : Pos}
theorem xe_scIx {i : Nat} {x : Str} {xp : Pos} {k : Expr} {wb : DE} (hv : PE X (.Name x xp) (tVar i)) (hk : XE X k wb) (hs : PlainIx k := by exact fun _ _ => rfl) : XE X (.Subscript (.Name x xp) k pos) (fun s Φ => scAt s i fun _ => wScIx i wb s Φ) :=
  pe_imp (pe_ix ix_list hv hk hs) fun σ H Q h => by
    obtain ⟨G, P, F, s, Φ, R, h, kk⟩ := h
    obtain ⟨ns0, h0, h⟩ := scAt_of h
    obtain ⟨a, g1, g2⟩ := R.sl i _ h0
    refine ⟨_, g1, G, P, F, s, _, R, h, fun u F2 H2 s2 y R2 e2 d2 q2 => ?_⟩
    obtain ⟨ns, h1, q2⟩ := scAt_of q2
    obtain ⟨b, k1, k2⟩ := R2.sl i _ h1
    rw [g1] at k1
    cases k1
    cases y with
    | int k =>
      cases d2
      obtain ⟨z0, z1, q2⟩ := q2
      have hk : k.toNat < ns.length := by omega
      have ha : atI (ns.map V.int) k = some (V.int (ns.getD k.toNat 0)) := by
        refine at_of (j := k.toNat) (by omega) ?_
        rw [List.getElem?_map, List.getElem?_eq_getElem hk, List.getD_eq_getElem?_getD, List.getElem?_eq_getElem hk]
        rfl
      exact ⟨_, _, k, _, rfl, rfl, R2.same.seq k2, ha, kk _ F2 H2 s2 _ R2 e2 (.int _) q2⟩
    | _ => exact q2.elim
/-! the pool -/
theorem atI_map {α β : Type} {f : α → β} {xs : List α} {k : Int} {x : α} (h : atI xs k = some x) : atI (xs.map f) k = some (f x) := by
  obtain ⟨j, a, b⟩ := atI_get h
  unfold atI
  rw [List.length_map, a]
  show (xs.map f)[j]? = some (f x)
  rw [List.getElem?_map, b]
  rfl
@[simp] def wPlIx (i : Nat) (wb : DE) : DE := fun s Φ => poolAt s i (wb s fun k s1 => match k with
  | .int k => optP (atI s1.q k) fun n => Φ (.int n) s1
  | _ => False)
theorem xe_plIx {i : Nat} {x : Str} {xp : Pos} {k : Expr} {wb : DE} (hv : PE X (.Name x xp) (tVar i)) (hk : XE X k wb) (hs : PlainIx k := by exact fun _ _ => rfl) : XE X (.Subscript (.Name x xp) k pos) (wPlIx i wb) :=
  pe_imp (pe_ix ix_list hv hk hs) fun σ H Q h => by
    obtain ⟨G, P, F, s, Φ, R, h, kk⟩ := h
    obtain ⟨hs, h⟩ := poolAt_of h
    obtain ⟨a, rfl, g1⟩ := R.sl i _ hs
    refine ⟨_, g1, G, some a, F, s, _, R, h, fun u F2 H2 s2 y R2 e2 d2 q2 => ?_⟩
    cases y with
    | int k =>
      cases d2
      obtain ⟨n, hn, q2⟩ := optP_of q2
      exact ⟨_, _, k, _, rfl, rfl, SqL.of (R2.pool a rfl).2.2, atI_map hn, kk _ F2 H2 s2 _ R2 e2 (.int _) q2⟩
    | _ => exact q2.elim
@[simp] def wPlLen (i : Nat) : DE := fun s Φ => poolAt s i (Φ (.int s.q.length) s)
theorem xe_plLen {i : Nat} {x : Str} {xp p1 : Pos} (hg : Gl X "len") (hm : X.mg "len" = none) (hv : PE X (.Name x xp) (tVar i)) (he : starEach [.Name x xp] X.env = (false, eval (.Name x xp) X.env) :: starEach [] X.env := by rfl)
    (hpl : (backTo pos (starEach [] X.env)).any (·.1) = false := by rfl) : XE X (.Call (.Name "len" p1) [.Name x xp] [] pos) (wPlLen i) :=
  pe_imp (pe_callB call_len_seq hg hm (by decide +kernel) (pa_cons hv pa_nil he) (by decide) (by decide) he hpl) fun σ H Q h => by
    obtain ⟨G, P, F, s, Φ, R, h, kk⟩ := h
    obtain ⟨hs, h⟩ := poolAt_of h
    obtain ⟨a, rfl, g1⟩ := R.sl i _ hs
    refine ⟨_, g1, a, _, rfl, .inl (SqL.of (R.pool a rfl).2.2), ?_⟩
    rw [List.length_map]
    exact kk _ F H s _ R (Same.refl F) (.int _) h
/-- pool[k] = e -/
@[simp] def wPlSet (i : Nat) (wi we : DE) : DS := fun Φ s => we s fun x s1 => poolAt s1 i (wi s1 fun k s2 => match k, x with
  | .int k, .int n => optP (ixN s2.q.length k) fun j => Φ.nx ⟨s2.e, s2.q.set j n⟩
  | _, _ => False)
theorem xs_plSet {i : Nat} {x : Str} {xp p1 : Pos} {a k : Expr} {wi we : DE} (hv : PE X (.Name x xp) (tVar i)) (hk : XE X k wi) (h : XE X a we)
    (hs : swapsWithSole [.Subscript (.Name x xp) k p1] a pos.line X.env = pure false := by rfl) (hw : swappedStores [.Subscript (.Name x xp) k p1] a X.env = pure none := by rfl)
    (hasg : ∀ u, assign (.Subscript (.Name x xp) k p1) X.env u = (do let ov ← holding [u] (eval (.Name x xp) X.env); let iv ← holding [u, ov] (eval k X.env); standAt p1; holding [u, ov, iv] (setItem ov iv u); release [u, ov, iv] []) := by intro _; rfl) :
    XS X (.Assign [.Subscript (.Name x xp) k p1] a pos) (wPlSet i wi we) :=
  ps_imp (ps_asg h (pg_sub hv hk set_list hasg) hs hw) fun D σ H h => by
    obtain ⟨G, P, F, s, Φ, R, h, b⟩ := h
    refine ⟨G, P, F, s, _, R, h, fun v F1 H1 s1 x R1 e1 d1 q1 => ?_⟩
    obtain ⟨h0, q1⟩ := poolAt_of q1
    obtain ⟨a, rfl, g1⟩ := R1.sl i _ h0
    refine ⟨_, g1, G, some a, F1, s1, _, R1, q1, fun u F2 H2 s2 y R2 e2 d2 q2 => ?_⟩
    cases y with
    | int k =>
      cases x with
      | int n =>
        cases d1
        cases d2
        obtain ⟨j, hj, q2⟩ := optP_of q2
        obtain ⟨p1, p2, p3⟩ := R2.pool a rfl
        refine ⟨_, _, k, j, rfl, rfl, p3, by rw [List.length_map]; exact hj, b.nx _ F2 _ _ ?_ (e1.trans e2) q2⟩
        have f : FreshP a F2 H2 F2 (upd H2 a (.lst ((s2.q.map V.int).set j (.int n)))) := ⟨Same.refl F2, fun b o q => by rw [upd_ne (fun z => by rw [z, p1] at q; cases q)]; exact R2.same b o q, fun b o nb q => by rw [upd_ne nb]; exact ⟨fun _ => q, o, q, rfl⟩, fun b o _ q => q, fun t => t.updH⟩
        exact R2.freshP f (by rw [upd_same, List.map_set])
      | _ => exact q2.elim
    | _ => exact q2.elim
end

/-! ### new lists handed back -/
structure FreshL (F H F' H' : Hp) (p : Addr) : Prop where
  fs : Fresh F H F' H'
  np : H p = none
  fp : F' p = none
abbrev DSpL := List PyData → (List PyData → Prop) → Prop
def spL (K : PySem.W.Frag) (f : DSpL) : Sp := fun vs H Q _ => ∃ F ds Φ, (Same F H ∧ TabsF K F H) ∧ DqA K F vs ds ∧ f ds Φ ∧ ∀ p us F' H' xs, FreshL F H F' H' p → H' p = some (.lst us) → DqA K F' us xs → Φ xs → Q (.ref p) H'
/-- the same of the script -/
abbrev DSpS := List Int → (List PyData → Prop) → Prop
def spS (K : PySem.W.Frag) (f : DSpS) : Sp := fun vs H Q _ => ∃ a ns F Φ, vs = [.ref a] ∧ (Same F H ∧ TabsF K F H) ∧ SqL K F a (ns.map V.int) ∧ f ns Φ ∧ ∀ p us F' H' xs, FreshL F H F' H' p → H' p = some (.lst us) → DqA K F' us xs → Φ xs → Q (.ref p) H'
@[simp] def endL (Φ : List PyData → Prop) : EN := { nx := fun _ => False, rt := fun _ _ => False, rl := fun xs _ => Φ xs }
section
variable {P : Program} {w : World} {K : PySem.W.Frag} {mg : Str → Option Value} {base : Heap} {k : Nat} {f : Addr} {fd : FuncData} {ps : List Str} {qual x : Str} {st : Stmt} {N : List Str}
theorem freshL_of {F H F' H' : Hp} {σ' : L2.St} {s' : S} {p : Addr} (e : Same F H ∧ TabsF K F H) (R : Rep K (partH F H none) none F' H' σ' s') (ee : Same F F') (n : Nu (partH F H none) none F' σ' s' p) : FreshL F H F' H' p := by
  have fr : Fresh F H F' H' := fresh_of e R ee
  refine ⟨fr, ?_, n.f⟩
  cases hp : H p with
  | none => rfl
  | some o =>
    have hF : F p = none := by
      cases hF : F p with
      | none => rfl
      | some u =>
        have q := ee p u hF
        rw [n.f] at q
        cases q
    have q := n.g
    rw [partH_at hF (fun z => by cases z) hp] at q
    cases q
theorem fn_L {sp : DSpL} (F : Fun K x qual st f fd) (Sc : FnScope N ps (defScope st)) (len : ∀ ds Φ, sp ds Φ → ds.length = ps.length)
    (hbody : ∀ (cdv : Value) (A : Around) (outer : List Env) (s : Shared) (H : Hp) (E : XK), (A.deeper (envOfC qual (defScope st) s.heap.objs.size f cdv)).guards = some [] → Room k (A.deeper (envOfC qual (defScope st) s.heap.objs.size f cdv)) →
      ∃ wd, XSs (cxOf CX0 P w K mg base N qual (defScope st) f cdv A outer s H E).nox (defBody st) wd ∧ ∀ ds Φ, sp ds Φ → wd (endL Φ) ⟨startE N (ds.map .d), []⟩) : FnG P w K mg base CX0 (k + 1) f fd ps (spL K sp) := by
  refine fng_of F Sc (fun vs H Q E h => ?_) (fun cdv _ A outer s H vs Q E g hr h => ?_)
  · obtain ⟨F, ds, Φ, _, d, hs, _⟩ := h
    rw [d.length]
    exact len ds Φ hs
  · obtain ⟨wd, hX, hw⟩ := hbody cdv A outer s H E g hr
    refine ⟨_, hX.nox, ?_⟩
    obtain ⟨F, ds, Φ, e, d, hs, kk⟩ := h
    exact ⟨_, none, F, _, _, rep_startD e d [], hw ds Φ hs, fun _ _ _ _ _ _ q => q.elim, fun _ _ _ _ _ _ _ _ _ q => q.elim, fun _ _ _ _ _ _ q => q.elim, fun _ _ _ _ _ _ q => q.elim,
      fun p us σ' F' H' s' xs R ee n hp dx q => kk p us F' H' xs (freshL_of e R ee n) hp dx q, fun _ _ _ _ _ _ _ _ q => q.elim⟩
theorem rep_startS {F H : Hp} {ns : List Int} {a : Addr} {q : List Int} (e0 : Same F H ∧ TabsF K F H) (h : SqL K F a (ns.map V.int)) : Rep K (partH F H none) none F H (L2.start N [.ref a]) ⟨startE N [.sc ns], q⟩ := by
  have look : ∀ {i : Nat} {x : Sl}, ([.sc ns] : List Sl)[i]? = some x → i = 0 ∧ x = .sc ns := fun {i x} h => by
    cases i with
    | zero => exact ⟨rfl, (Option.some.inj (by simpa using h)).symm⟩
    | succ j => simp at h
  obtain ⟨e, tf⟩ := e0
  refine ⟨e, part_same, fun b o h => (partH_some h).1, fun i x hx => ?_, fun i j xs ys p hi hj _ _ => ?_, fun a ha => (by cases ha), ?_, fun i j x y r hi hj hr _ _ => ?_, tabs_part tf fun _ z => by cases z⟩
  · rcases startE_get hx with h2 | rfl
    · obtain ⟨rfl, rfl⟩ := look h2
      exact ⟨a, start_get rfl, h⟩
    · exact True.intro
  · rcases startE_get hi with h2 | h2
    · obtain ⟨_, z⟩ := look h2
      cases z
    · cases h2
  · show (L2.start N [.ref a]).length = (startE N [.sc ns]).length
    unfold L2.start startE
    simp
  · rcases startE_get hi with h2 | rfl
    · obtain ⟨rfl, rfl⟩ := look h2
      cases hr
    · cases hr
theorem fn_S {sp : DSpS} (F : Fun K x qual st f fd) (Sc : FnScope N ps (defScope st)) (len : ps.length = 1)
    (hbody : ∀ (cdv : Value) (A : Around) (outer : List Env) (s : Shared) (H : Hp) (E : XK), (A.deeper (envOfC qual (defScope st) s.heap.objs.size f cdv)).guards = some [] → Room k (A.deeper (envOfC qual (defScope st) s.heap.objs.size f cdv)) →
      ∃ wd, XSs (cxOf CX0 P w K mg base N qual (defScope st) f cdv A outer s H E).nox (defBody st) wd ∧ ∀ ns Φ, sp ns Φ → wd (endL Φ) ⟨startE N [.sc ns], []⟩) : FnG P w K mg base CX0 (k + 1) f fd ps (spS K sp) := by
  refine fng_of F Sc (fun vs H Q E h => ?_) (fun cdv _ A outer s H vs Q E g hr h => ?_)
  · obtain ⟨a, ns, F, Φ, rfl, _⟩ := h
    exact len.symm
  · obtain ⟨wd, hX, hw⟩ := hbody cdv A outer s H E g hr
    refine ⟨_, hX.nox, ?_⟩
    obtain ⟨a, ns, F, Φ, rfl, e, d, hs, kk⟩ := h
    exact ⟨_, none, F, _, _, rep_startS e d, hw ns Φ hs, fun _ _ _ _ _ _ q => q.elim, fun _ _ _ _ _ _ _ _ _ q => q.elim, fun _ _ _ _ _ _ q => q.elim, fun _ _ _ _ _ _ q => q.elim,
      fun p us σ' F' H' s' xs R ee n hp dx q => kk p us F' H' xs (freshL_of e R ee n) hp dx q, fun _ _ _ _ _ _ _ _ q => q.elim⟩
end
section
variable {X : Cx} {k : Nat} {f : Addr} {fd : FuncData} {ps : List Str} {x : Str} {p pos : Pos} {e : Expr} {es : List Expr}
theorem Rep.nuL {K : PySem.W.Frag} {G F F' H H' : Hp} {P : Option Addr} {σ : L2.St} {s : S} {p : Addr} (R : Rep K G P F H σ s) (f : FreshL F H F' H' p) : Nu G P F' σ s p :=
  let n := R.nu f.np
  ⟨f.fp, n.g, n.np, n.sl, n.tb⟩
@[simp] def wCallL (sp : DSpL) (wa : DA) : DA := fun s Φ => wa s fun ds s1 => sp ds fun r => Φ r s1
theorem xl_call {sp : DSpL} {wa : DA} (F : FnG X.prog X.w X.K X.mg X.base CX0 k f fd ps (spL X.K sp)) (hgd : X.A.guards = some []) (hr : Room k X.A) (hg : Gl X x) (hm : X.mg x = some (.ref f)) (hk : PySem.W.keepIn X.K (.ref f) = true) (hb : Binds X.K fd ps [])
    (ha : XA X (e :: es) wa) (hdb : (x == ("__debug__" : Str)) = false := by decide) (he : starEach (e :: es) X.env = (false, eval e X.env) :: starEach es X.env := by rfl) (hpl : (backTo pos (starEach es X.env)).any (·.1) = false := by rfl) :
    XL X (.Call (.Name x p) (e :: es) [] pos) (wCallL sp wa) := pe_imp (pe_callG F hgd hr hg hm hk hb .nil pass0 ha hdb he hpl) fun σ H Q h => by
  obtain ⟨G, P, F, s, Φ, R, h, kk⟩ := h
  refine ⟨G, P, F, s, _, R, h, fun vs F1 H1 s1 ds R1 e1 d1 q => ?_⟩
  show spL X.K sp (vs ++ []) H1 Q E0
  rw [List.append_nil]
  exact ⟨F1, ds, _, ⟨R1.same, R1.tabF⟩, d1, q, fun p us F' H' xs fr hp dx qx => kk p us F' H' s1 xs (R1.fresh fr.fs) (e1.trans fr.fs.ff) (R1.nuL fr) hp dx qx⟩
/-- f(script) -/
@[simp] def wCallS (i : Nat) (sp : DSpS) : DA := fun s Φ => scAt s i fun ns => sp ns fun r => Φ r s
theorem xl_callS {i : Nat} {y : Str} {yp : Pos} {sp : DSpS} (F : FnG X.prog X.w X.K X.mg X.base CX0 k f fd ps (spS X.K sp)) (hgd : X.A.guards = some []) (hr : Room k X.A) (hg : Gl X x) (hm : X.mg x = some (.ref f)) (hk : PySem.W.keepIn X.K (.ref f) = true) (hb : Binds X.K fd ps [])
    (hv : PE X (.Name y yp) (tVar i)) (hdb : (x == ("__debug__" : Str)) = false := by decide) (he : starEach [.Name y yp] X.env = (false, eval (.Name y yp) X.env) :: starEach [] X.env := by rfl) (hpl : (backTo pos (starEach [] X.env)).any (·.1) = false := by rfl) :
    XL X (.Call (.Name x p) [.Name y yp] [] pos) (wCallS i sp) := pe_imp (pe_callG F hgd hr hg hm hk hb .nil pass0 (pa_cons hv pa_nil he) hdb he hpl) fun σ H Q h => by
  obtain ⟨G, P, F, s, Φ, R, h, kk⟩ := h
  obtain ⟨ns, h0, h⟩ := scAt_of h
  obtain ⟨a, g1, g2⟩ := R.sl i _ h0
  refine ⟨_, g1, ?_⟩
  show spS X.K sp ([.ref a] ++ []) H Q E0
  rw [List.append_nil]
  exact ⟨a, ns, F, _, rfl, ⟨R.same, R.tabF⟩, g2, h, fun p us F' H' xs fr hp dx qx => kk p us F' H' s xs (R.fresh fr.fs) fr.fs.ff (R.nuL fr) hp dx qx⟩
/-! repr -/
@[simp] def gRepr : PyData → (PyData → Prop) → Prop := fun x Φ => (match x with
  | .list _ => True
  | .tuple _ => True
  | _ => False) ∧ x.showable = true ∧ x.hasDict = false ∧ x.depth ≤ 60 ∧ x.shown.length ≤ sizeLine ∧ Φ (.str x.shown)
theorem call_repr {k : Nat} (hgd : X.A.guards = some []) (hr : Room k X.A) : CallR X (.builtin "repr") (fun xs H Q => ∃ a d, xs = [.ref a] ∧ Dp X.K H (.ref a) d ∧ d.showable = true ∧ d.hasDict = false ∧ d.depth ≤ 60 ∧ d.shown.length ≤ sizeLine ∧ Q (.str d.shown) H) := by
  intro pins s σ H xs us Q I r h
  obtain ⟨a, d, rfl, dp, h1, h2, h3, h4, q⟩ := h
  obtain ⟨u, rfl, ru⟩ := vals1 r
  obtain ⟨as, rd⟩ := Dp.reads I d (.ref a) u dp ru
  cases ru
  have hu := hr.units
  exact repr_of_reads' rd h1 (PyData.noDict_hsm h2) hgd (by omega) (fun _ _ z => z) (fun h' u tk kept => ⟨.str d.shown, H, I.kept (t' := tk) kept, ⟨u, rfl⟩, q⟩) h4
theorem opn_repr : OpN X.K (fun xs H Q => ∃ a d, xs = [.ref a] ∧ Dp X.K H (.ref a) d ∧ d.showable = true ∧ d.hasDict = false ∧ d.depth ≤ 60 ∧ d.shown.length ≤ sizeLine ∧ Q (.str d.shown) H) (wN1 gRepr) := opN1 fun F H v x Q Φ s d w k => by
  obtain ⟨w0, w1, w2, w3, w4, w5⟩ := w
  have d0 := (d.mono s).dp w2
  cases d with
  | lst h1 h2 => exact ⟨_, _, rfl, d0, w1, w2, w3, w4, k _ F H _ (Fresh.refl s) (.str _) w5⟩
  | tup h1 h2 => exact ⟨_, _, rfl, d0, w1, w2, w3, w4, k _ F H _ (Fresh.refl s) (.str _) w5⟩
  | _ => exact w0.elim
end
/-! ### the law: pool = _law_stream(script), then the rest over the pool -/
open Classical in
/-- the tables alone -/
noncomputable def tabG (K : PySem.W.Frag) : Hp := fun b => if TabK K b then some (.ext (tabPh b)) else if LamK K b then some (.tbl #[]) else none
open Classical in
/-- all but the tables -/
noncomputable def noTab (K : PySem.W.Frag) (H : Hp) : Hp := fun b => if TabK K b ∨ LamK K b then none else H b
theorem LamK.notTab {K : PySem.W.Frag} {b : Addr} (h : LamK K b) : ¬ TabK K b := by
  obtain ⟨_, _, _, _, _, _, _, _, _, _, _, _, _, _, _, _, _, z⟩ := h
  exact z
theorem tabG_in {K : PySem.W.Frag} {b : Addr} {o : HO} (h : tabG K b = some o) : (TabK K b ∧ o = .ext (tabPh b)) ∨ (LamK K b ∧ o = .tbl #[]) := by
  unfold tabG at h
  split at h
  · exact .inl ⟨by assumption, (Option.some.inj h).symm⟩
  · split at h
    · exact .inr ⟨by assumption, (Option.some.inj h).symm⟩
    · cases h
theorem tabG_at {K : PySem.W.Frag} : TabsAt K (tabG K) := ⟨fun b hb => if_pos hb, fun b hb => ⟨#[], (if_neg hb.notTab).trans (if_pos hb)⟩⟩
theorem tabG_none {K : PySem.W.Frag} {b : Addr} (h1 : ¬ TabK K b) (h2 : ¬ LamK K b) : tabG K b = none := (if_neg h1).trans (if_neg h2)
theorem noTab_in {K : PySem.W.Frag} {H : Hp} {b : Addr} {o : HO} (h : noTab K H b = some o) : ¬ (TabK K b ∨ LamK K b) ∧ H b = some o := by
  unfold noTab at h
  split at h
  · cases h
  · exact ⟨by assumption, h⟩
theorem noTab_out {K : PySem.W.Frag} {H : Hp} {b : Addr} (h : ¬ (TabK K b ∨ LamK K b)) : noTab K H b = H b := if_neg h
theorem noTab_none {K : PySem.W.Frag} {H : Hp} {b : Addr} (h : TabK K b ∨ LamK K b) : noTab K H b = none := if_pos h
theorem noTab_seq {K : PySem.W.Frag} {H : Hp} {a : Addr} {xs : List V} (t : TabsAt K H) (h : SqL K H a xs) : SqL K (noTab K H) a xs := by
  rcases h with (h | ⟨o, h⟩) | h
  · have n : ¬ (TabK K a ∨ LamK K a) := fun z => by
      rcases z with z | z
      · have q := t.1 a z
        rw [h] at q
        cases q
      · obtain ⟨ps, q⟩ := t.2 a z
        rw [h] at q
        cases q
    exact .inl (.inl (by rw [noTab_out n]; exact h))
  · have n : ¬ (TabK K a ∨ LamK K a) := fun z => by
      rcases z with z | z
      · have q := t.1 a z
        rw [h] at q
        cases q
      · obtain ⟨ps, q⟩ := t.2 a z
        rw [h] at q
        cases q
    exact .inl (.inr ⟨o, by rw [noTab_out n]; exact h⟩)
  · exact .inr h
/-- the only tables are the defs' own, and they are empty -/
def TblE (K : PySem.W.Frag) (H : Hp) : Prop := ∀ b ps, H b = some (.tbl ps) → LamK K b ∧ ps = #[]
theorem noTab_same {K : PySem.W.Frag} {H : Hp} (t : TabsAt K H) (te : TblE K H) : Same (noTab K H) H ∧ TabsF K (noTab K H) H := ⟨fun b o h => (noTab_in h).2, fun b hb => ⟨noTab_none (.inl hb), t.1 b hb⟩, fun b hb => ⟨noTab_none (.inr hb), t.2 b hb⟩, fun b ps h => by
  rw [(te b ps h).2]
  exact TOk.nil _, fun b o h => by
  obtain ⟨n, h⟩ := noTab_in h
  cases o with
  | tbl ps => exact (n (.inr (te b ps h).1)).elim
  | _ => rfl⟩
def spLaw (K : PySem.W.Frag) : Sp := fun vs H Q _ => ∃ (a : Addr) (ns : List Int), (TabsAt K H ∧ TblE K H) ∧ vs = [.ref a] ∧ SqL K H a (ns.map V.int) ∧ ns.length ≤ 63 ∧ ∀ H', TabsAt K H' → Q (.bl true) H'
/-- a pool: at least 301 numbers from 0 on, all but the first one below 60 -/
structure PoolOk (q : List Int) : Prop where
  lo : 301 ≤ q.length
  hi : q.length ≤ 100000
  h0 : ∀ n ∈ q, 0 ≤ n
  nn : ∀ n ∈ q.drop 1, n < 60
def spStream : DSpS := fun ns Φ => ns.length ≤ 63 ∧ ∀ q, PoolOk q → Φ (q.map .int)
@[simp] def endTrue : EN := { nx := fun _ => False, rt := fun x _ => x = .bool true }
section
variable {P : Program} {w : World} {K : PySem.W.Frag} {mg : Str → Option Value} {base : Heap} {k kS : Nat} {f fS : Addr} {fd fdS : FuncData} {psS : List Str} {qual x : Str} {st : Stmt} {N : List Str}
theorem rep_law {F H F' H' : Hp} {a p : Addr} {ns q : List Int} (tF : TabsF K F H) (h : SqL K F a (ns.map V.int)) (fr : FreshL F H F' H' p) (hp : H' p = some (.lst (q.map V.int))) (hN : 2 ≤ N.length) :
    Rep K (tabG K) (some p) F' H' ((L2.start N [.ref a]).set 1 (some (.ref p))) ⟨(startE N [.sc ns]).set 1 .pl, q⟩ := by
  have hl : 1 < (L2.start N [.ref a]).length := by
    unfold L2.start
    simp
    omega
  have look : ∀ {i : Nat} {x : Sl}, ([.sc ns] : List Sl)[i]? = some x → i = 0 ∧ x = .sc ns := fun {i x} h => by
    cases i with
    | zero => exact ⟨rfl, (Option.some.inj (by simpa using h)).symm⟩
    | succ j => simp at h
  refine ⟨fr.fs.fh, fun b o z => ?_, fun b o z => ?_, fun i x hx => ?_, fun i j xs ys r hi hj _ _ => ?_, fun b hb => ?_, ?_, fun i j x y r hi hj hr _ _ => ?_, ⟨tabG_at, fr.fs.tk tF.tk⟩⟩
  · rcases tabG_in z with ⟨z1, rfl⟩ | ⟨z1, rfl⟩
    · exact fr.fs.hh b _ (tF.gen b z1).2
    · obtain ⟨ps, q⟩ := (tF.lam b z1).2
      obtain ⟨_, o', h', t⟩ := fr.fs.hh b _ q
      exact ⟨fun t => (by cases t), o', h', t⟩
  · rcases tabG_in z with ⟨z1, rfl⟩ | ⟨z1, rfl⟩
    · exact fr.fs.fr b _ (tF.gen b z1).2 (tF.gen b z1).1
    · obtain ⟨ps, q⟩ := (tF.lam b z1).2
      exact fr.fs.fr b _ q (tF.lam b z1).1
  · rcases set_get hx with ⟨rfl, rfl⟩ | ⟨ne, hx⟩
    · exact ⟨p, rfl, set_self hl⟩
    · rcases startE_get hx with h2 | rfl
      · obtain ⟨rfl, rfl⟩ := look h2
        exact ⟨a, by rw [List.getElem?_set_ne (by decide)]; exact start_get rfl, fr.fs.ff.seq h⟩
      · exact True.intro
  · rcases set_get hi with ⟨_, z⟩ | ⟨_, hi⟩
    · cases z
    · rcases startE_get hi with h2 | h2
      · obtain ⟨_, z⟩ := look h2
        cases z
      · cases h2
  · cases hb
    refine ⟨fr.fp, ?_, hp⟩
    refine tabG_none (fun z => ?_) fun z => ?_
    · have q := (tF.gen p z).2
      rw [fr.np] at q
      cases q
    · obtain ⟨ps, q⟩ := (tF.lam p z).2
      rw [fr.np] at q
      cases q
  · show ((L2.start N [.ref a]).set 1 (some (.ref p))).length = ((startE N [.sc ns]).set 1 .pl).length
    rw [List.length_set, List.length_set]
    unfold L2.start startE
    simp
  · rcases set_get hi with ⟨rfl, rfl⟩ | ⟨ne, hi⟩
    · cases hr
    · rcases startE_get hi with h2 | rfl
      · obtain ⟨rfl, rfl⟩ := look h2
        cases hr
      · cases hr
/-- pool is the second name -/
theorem fn_law {y sx : Str} {yp p1 p2 cp pos : Pos} {rest : List Stmt} (F : Fun K x qual st f fd) (Sc : FnScope N ["script"] (defScope st)) (hN : 2 ≤ N.length)
    (hb0 : defBody st = .Assign [.Name y yp] (.Call (.Name sx p1) [.Name "script" p2] [] cp) pos :: rest)
    (GS : FnG P w K mg base CX0 kS fS fdS psS (spS K spStream)) (gS : mg sx = some (.ref fS)) (kpS : PySem.W.keepIn K (.ref fS) = true) (bS : Binds K fdS psS []) (hk : kS ≤ k)
    (hhead : ∀ (cdv : Value) (A : Around) (outer : List Env) (s : Shared) (H : Hp) (E : XK), (A.deeper (envOfC qual (defScope st) s.heap.objs.size f cdv)).guards = some [] → Room k (A.deeper (envOfC qual (defScope st) s.heap.objs.size f cdv)) →
      PS (cxOf CX0 P w K mg base N qual (defScope st) f cdv A outer s H E).nox (.Assign [.Name y yp] (.Call (.Name sx p1) [.Name "script" p2] [] cp) pos) (tAsg (tCall (spS K spStream) [] E0 (tCons (tVar 0) tNil)) (gName 1)))
    (hbody : ∀ (cdv : Value) (A : Around) (outer : List Env) (s : Shared) (H : Hp) (E : XK), (A.deeper (envOfC qual (defScope st) s.heap.objs.size f cdv)).guards = some [] → Room k (A.deeper (envOfC qual (defScope st) s.heap.objs.size f cdv)) →
      ∃ wd, XSs (cxOf CX0 P w K mg base N qual (defScope st) f cdv A outer s H E).nox rest wd ∧ ∀ ns q, PoolOk q → wd endTrue ⟨(startE N [.sc ns]).set 1 .pl, q⟩) : FnG P w K mg base CX0 (k + 1) f fd ["script"] (spLaw K) := by
  refine fng_of F Sc (fun vs H Q E h => ?_) (fun cdv _ A outer s H vs Q E g hr h => ?_)
  · obtain ⟨a, ns, _, rfl, _⟩ := h
    rfl
  · obtain ⟨wd, hX, hw⟩ := hbody cdv A outer s H E g hr
    have hs := hhead cdv A outer s H E g hr
    rw [hb0]
    refine ⟨_, (pss_cons hs hX).nox, ?_⟩
    obtain ⟨a, ns, ⟨tH, tE⟩, rfl, hS, hl, kk⟩ := h
    have key : ∀ Q' : VK, (∀ p us F' H' q, FreshL (noTab K H) H F' H' p → H' p = some (.lst us) → DqA K F' us (q.map .int) → PoolOk q → Q' (.ref p) H') → spS K spStream ([V.ref a] ++ []) H Q' E0 := fun Q' z => by
      rw [List.append_nil]
      exact ⟨a, ns, noTab K H, fun xs => ∃ q : List Int, PoolOk q ∧ xs = q.map .int, rfl, noTab_same tH tE, noTab_seq tH hS, ⟨hl, fun q hq => ⟨q, hq, rfl⟩⟩, fun p us F' H' xs fr hp dx ⟨q, hq, e⟩ => z p us F' H' q fr hp (by rw [← e]; exact dx) hq⟩
    refine ⟨.ref a, start_get rfl, ?_⟩
    dsimp only [tNil]
    refine key _ fun p us F' H' q fr hp dx hq => ?_
    have e := dx.ints
    subst e
    exact ⟨_, some p, F', _, endTrue, rep_law (noTab_same tH tE).2 (noTab_seq tH hS) fr hp hN, hw ns q hq, fun _ _ _ _ _ _ z => z.elim, fun v σ' F2 H2 s' x R ee dv z => by
      have z' : x = .bool true := z
      subst z'
      cases dv
      exact kk H2 ⟨fun b hb => R.keep.go (R.tab.1.1 b hb), fun b hb => R.tab.1.tblAt R.keep hb⟩, fun _ _ _ _ _ _ z => z.elim, fun _ _ _ _ _ _ z => z.elim, fun _ _ _ _ _ _ _ _ _ _ _ _ z => z.elim, fun _ _ _ _ _ _ _ _ z => z.elim⟩
end
end DL
/-! DL, eighth part: short words for the derivations. -/
namespace DL
open PySem PySem.Spec PyProof.Rows L2

section
variable {K : PySem.W.Frag}
@[simp] def wSub : W2 := wI2 fun i j => .int (i - j)
@[simp] def wMul : W2 := wII CMul fun i j => .int (i * j)
@[simp] def wMulW : W2 := wII CMulW fun i j => .int (i * j)
@[simp] def wDiv : W2 := wII CDiv fun i j => .int (i / j)
@[simp] def wMod : W2 := wII (fun _ j => 0 < j) fun i j => .int (i % j)
@[simp] def wPow : W2 := wII CPow fun i j => .int (i ^ j.toNat)
@[simp] def wShl : W2 := wII CPow fun i j => .int (i * 2 ^ j.toNat)
@[simp] def wShr : W2 := wII (fun _ j => 0 ≤ j) fun i j => .int (i / 2 ^ j.toNat)
@[simp] def wBand : W2 := wI2 fun i j => .int (Builtin.bitAnd i j)
@[simp] def wBor : W2 := wI2 fun i j => .int (Builtin.bitOr i j)
@[simp] def wBxor : W2 := wI2 fun i j => .int (Builtin.bitXor i j)
@[simp] def wLt : W2 := wI2 fun i j => .bool (decide (i < j))
@[simp] def wLe : W2 := wI2 fun i j => .bool (decide (i ≤ j))
@[simp] def wGt : W2 := wI2 fun i j => .bool (decide (j < i))
@[simp] def wGe : W2 := wI2 fun i j => .bool (decide (j ≤ i))
theorem o_sub : Op2 K (rI0 fun i j => .int (i - j)) wSub := op2_I0 fun _ _ _ => .int _
theorem o_mul : Op2 K (rI CMul fun i j => .int (i * j)) wMul := op2_I fun _ _ _ => .int _
theorem o_mulW : Op2 K (rI CMulW fun i j => .int (i * j)) wMulW := op2_I fun _ _ _ => .int _
theorem o_div : Op2 K (rI CDiv fun i j => .int (i / j)) wDiv := op2_I fun _ _ _ => .int _
theorem o_mod : Op2 K (rI (fun _ j => 0 < j) fun i j => .int (i % j)) wMod := op2_I fun _ _ _ => .int _
theorem o_pow : Op2 K (rI CPow fun i j => .int (i ^ j.toNat)) wPow := op2_I fun _ _ _ => .int _
theorem o_shl : Op2 K (rI CPow fun i j => .int (i * 2 ^ j.toNat)) wShl := op2_I fun _ _ _ => .int _
theorem o_shr : Op2 K (rI (fun _ j => 0 ≤ j) fun i j => .int (i / 2 ^ j.toNat)) wShr := op2_I fun _ _ _ => .int _
theorem o_band : Op2 K (rI0 fun i j => .int (Builtin.bitAnd i j)) wBand := op2_I0 fun _ _ _ => .int _
theorem o_bor : Op2 K (rI0 fun i j => .int (Builtin.bitOr i j)) wBor := op2_I0 fun _ _ _ => .int _
theorem o_bxor : Op2 K (rI0 fun i j => .int (Builtin.bitXor i j)) wBxor := op2_I0 fun _ _ _ => .int _
theorem o_lt : Op2 K (rI0 fun i j => .bl (decide (i < j))) wLt := op2_I0 fun _ _ _ => .bl _
theorem o_le : Op2 K (rI0 fun i j => .bl (decide (i ≤ j))) wLe := op2_I0 fun _ _ _ => .bl _
theorem o_gt : Op2 K (rI0 fun i j => .bl (decide (j < i))) wGt := op2_I0 fun _ _ _ => .bl _
theorem o_ge : Op2 K (rI0 fun i j => .bl (decide (j ≤ i))) wGe := op2_I0 fun _ _ _ => .bl _
@[simp] def wNeg : W1 := fun x Φ => match x with
  | .int i => Φ (.int (-i))
  | _ => False
theorem o_neg : Op1 K (rU fun i => .int (-i)) wNeg := ⟨fun {F H x dx} Q Φ s d w k => by
  cases dx with
  | int i =>
    cases d
    exact ⟨i, rfl, k _ F H _ (Fresh.refl s) (.int _) w⟩
  | _ => exact w.elim⟩
end
section
variable {X : Cx} {a b c e : Expr} {pos : Pos}
/-- a def that stands, with its promise -/
structure Ca (P : Program) (w : World) (K : PySem.W.Frag) (mg : Str → Option Value) (base : Heap) (k : Nat) (x : Str) (ps : List Str) (sp : Sp) : Prop where
  ex : ∃ f fd, FnG P w K mg base CX0 k f fd ps sp ∧ mg x = some (.ref f) ∧ PySem.W.keepIn K (.ref f) = true ∧ Binds K fd ps []
theorem c_call {k kX : Nat} {x : Str} {ps : List Str} {p : Pos} {es : List Expr} {sp : DSp} {wa : DA} (C : Ca X.prog X.w X.K X.mg X.base k x ps (spD X.K sp)) (hgd : X.A.guards = some []) (hr : Room kX X.A) (hk : k ≤ kX) (hg : Gl X x) (ha : XA X (e :: es) wa)
    (hdb : (x == ("__debug__" : Str)) = false := by decide) (he : starEach (e :: es) X.env = (false, eval e X.env) :: starEach es X.env := by rfl) (hpl : (backTo pos (starEach es X.env)).any (·.1) = false := by rfl) : XE X (.Call (.Name x p) (e :: es) [] pos) (wCall sp wa) := by
  obtain ⟨f, fd, F, gm, kp, b⟩ := C.ex
  exact xe_call F hgd (hr.mono hk) hg gm kp b ha hdb he hpl
theorem c_callP {k kX i : Nat} {x y : Str} {ps : List Str} {p yp : Pos} {es : List Expr} {sp : DSpP} {wa : DA} (C : Ca X.prog X.w X.K X.mg X.base k x ps (spP X.K sp)) (hgd : X.A.guards = some []) (hr : Room kX X.A) (hk : k ≤ kX) (hg : Gl X x) (hv : PE X (.Name y yp) (tVar i)) (ha : XA X es wa)
    (hdb : (x == ("__debug__" : Str)) = false := by decide) (he : starEach (.Name y yp :: es) X.env = (false, eval (.Name y yp) X.env) :: starEach es X.env := by rfl) (hpl : (backTo pos (starEach es X.env)).any (·.1) = false := by rfl) :
    XE X (.Call (.Name x p) (.Name y yp :: es) [] pos) (wCallP i sp wa) := by
  obtain ⟨f, fd, F, gm, kp, b⟩ := C.ex
  exact xe_callP F hgd (hr.mono hk) hg gm kp b hv ha hdb he hpl
theorem c_callL {k kX : Nat} {x : Str} {ps : List Str} {p : Pos} {es : List Expr} {sp : DSpL} {wa : DA} (C : Ca X.prog X.w X.K X.mg X.base k x ps (spL X.K sp)) (hgd : X.A.guards = some []) (hr : Room kX X.A) (hk : k ≤ kX) (hg : Gl X x) (ha : XA X (e :: es) wa)
    (hdb : (x == ("__debug__" : Str)) = false := by decide) (he : starEach (e :: es) X.env = (false, eval e X.env) :: starEach es X.env := by rfl) (hpl : (backTo pos (starEach es X.env)).any (·.1) = false := by rfl) : XL X (.Call (.Name x p) (e :: es) [] pos) (wCallL sp wa) := by
  obtain ⟨f, fd, F, gm, kp, b⟩ := C.ex
  exact xl_call F hgd (hr.mono hk) hg gm kp b ha hdb he hpl
theorem c_callS {k kX i : Nat} {x y : Str} {ps : List Str} {p yp : Pos} {sp : DSpS} (C : Ca X.prog X.w X.K X.mg X.base k x ps (spS X.K sp)) (hgd : X.A.guards = some []) (hr : Room kX X.A) (hk : k ≤ kX) (hg : Gl X x) (hv : PE X (.Name y yp) (tVar i))
    (hdb : (x == ("__debug__" : Str)) = false := by decide) (he : starEach [.Name y yp] X.env = (false, eval (.Name y yp) X.env) :: starEach [] X.env := by rfl) (hpl : (backTo pos (starEach [] X.env)).any (·.1) = false := by rfl) : XL X (.Call (.Name x p) [.Name y yp] [] pos) (wCallS i sp) := by
  obtain ⟨f, fd, F, gm, kp, b⟩ := C.ex
  exact xl_callS F hgd (hr.mono hk) hg gm kp b hv hdb he hpl
/-- list(x), a new list -/
@[simp] def wListN (wa : DE) : DA := fun s Φ => wa s fun x s1 => match x with
  | .list xs => Φ xs s1
  | .tuple xs => Φ xs s1
  | _ => False
theorem xl_list {p : Pos} {wa : DE} (hg : Gl X "list") (hm : X.mg "list" = none) (ha : XE X e wa) (he : starEach [e] X.env = (false, eval e X.env) :: starEach [] X.env := by rfl) (hpl : (backTo pos (starEach [] X.env)).any (·.1) = false := by rfl) :
    XL X (.Call (.Name "list" p) [e] [] pos) (wListN wa) := pe_imp (pe_callTy call_list_of hg hm (by decide +kernel) (pa_cons ha pa_nil he) (by decide) (by decide) he hpl) fun σ H Q h => by
  obtain ⟨G, P, F, s, Φ, R, h, k⟩ := h
  refine ⟨G, P, F, s, _, R, h, fun v F1 H1 s1 x R1 e1 d1 q => ?_⟩
  cases x with
  | list xs =>
    cases d1 with
    | @lst a0 vs0 _ h1 h2 =>
      refine ⟨a0, vs0, rfl, .inl (SqL.of (R1.same _ _ h1)), fun l hl => ?_⟩
      obtain ⟨R2, n⟩ := nu_new (o := .lst vs0) R1 hl
      exact k l vs0 F1 _ s1 xs R2 e1 n upd_same h2 q
  | tuple xs =>
    cases d1 with
    | @tup a0 vs0 _ h1 h2 =>
      refine ⟨a0, vs0, rfl, .inr (same_sqt R1.same h1), fun l hl => ?_⟩
      obtain ⟨R2, n⟩ := nu_new (o := .lst vs0) R1 hl
      exact k l vs0 F1 _ s1 xs R2 e1 n upd_same h2 q
  | _ => exact q.elim
/-- chains: a < b < c -/
@[simp] def wChain (w w' : W2) (wa wb wc : DE) : DE := fun s Φ => wa s fun x s1 => wb s1 fun y s2 => w x y fun z => match z with
  | .bool b => if b = true then wc s2 fun u s3 => w' y u fun z2 => Φ z2 s3 else Φ (.bool false) s2
  | _ => False
end
end DL
/-! DL, ninth part: built-in names, constants, chains, repeated lists. -/
namespace DL
open PySem PySem.Spec PyProof.Rows L2

structure Bi (mg : Str → Option Value) : Prop where
  len : mg "len" = none
  int : mg "int" = none
  str : mg "str" = none
  bool : mg "bool" = none
  list : mg "list" = none
  tuple : mg "tuple" = none
  max : mg "max" = none
  min : mg "min" = none
  sum : mg "sum" = none
  any : mg "any" = none
  all : mg "all" = none
  repr : mg "repr" = none
  range : mg "range" = none
  enumerate : mg "enumerate" = none
  zip : mg "zip" = none
  isinstance : mg "isinstance" = none
  sorted : mg "sorted" = none
theorem bb_len : bootBuiltins "len" = some (.builtin "len") := by decide +kernel
theorem bb_max : bootBuiltins "max" = some (.builtin "max") := by decide +kernel
theorem bb_min : bootBuiltins "min" = some (.builtin "min") := by decide +kernel
theorem bb_sum : bootBuiltins "sum" = some (.builtin "sum") := by decide +kernel
theorem bb_any : bootBuiltins "any" = some (.builtin "any") := by decide +kernel
theorem bb_all : bootBuiltins "all" = some (.builtin "all") := by decide +kernel
theorem bb_repr : bootBuiltins "repr" = some (.builtin "repr") := by decide +kernel
theorem bb_int : bootBuiltins "int" = some (.type "int") := by decide +kernel
theorem bb_str : bootBuiltins "str" = some (.type "str") := by decide +kernel
theorem bb_bool : bootBuiltins "bool" = some (.type "bool") := by decide +kernel
theorem bb_list : bootBuiltins "list" = some (.type "list") := by decide +kernel
theorem bb_tuple : bootBuiltins "tuple" = some (.type "tuple") := by decide +kernel
theorem bb_range : bootBuiltins "range" = some (.type "range") := by decide +kernel
/-- a constant of the module's top -/
structure Gc (K : PySem.W.Frag) (mg : Str → Option Value) (x : Str) (d : PyData) where
  v : V
  u : Value
  mg : mg x = some u
  rel : RelV v u
  dq : ∀ F, Dq K F v d
@[simp] def wScIxA (i : Nat) (wb : DE) : DE := fun s Φ => scAt s i fun _ => wScIx i wb s Φ
section
variable {K : PySem.W.Frag}
theorem op2L_rep : Op2L K rRep wRepL := ⟨fun {F H x y dx dy} Q Φ s d1 d2 w k => by
  cases dx with
  | list a =>
    cases dy with
    | int n =>
      cases d2
      cases d1 with
      | @lst a0 vs _ h1 h2 =>
        have rep : ∀ m : Nat, DqA K F (List.replicate m vs).flatten (List.replicate m a).flatten := fun m => by
          induction m with
          | zero => exact .nil
          | succ m ih =>
            rw [List.replicate_succ, List.replicate_succ, List.flatten_cons, List.flatten_cons]
            exact h2.append ih
        exact ⟨a0, n, vs, rfl, rfl, s _ _ h1, w.1.1, w.1.2.1, by rw [h2.length]; exact w.1.2.2, fun p hp => k p _ _ hp (rep n.toNat) w.2⟩
    | _ => exact w.elim
  | _ => exact w.elim⟩
end
section
variable {X : Cx} {a b c : Expr} {pos : Pos}
theorem xe_chain {op op' : CmpOp} {r r' : R2} {w w' : W2} {wa wb wc : DE} (ho : OpR X (compareOp op) r) (O : Op2 X.K r w) (ho' : OpR X (compareOp op') r') (O' : Op2 X.K r' w') (ha : XE X a wa) (hb : XE X b wb) (hc : XE X c wc)
    (hm : lastMarks [op, op'] [b, c] = false := by with_unfolding_all rfl) : XE X (.Compare a [op, op'] [b, c] pos) (wChain w w' wa wb wc) := pe_imp (pe_chain ho ho' ha hb hc hm) fun σ H Q h => by
  obtain ⟨G, P, F, s, Φ, R, h, k⟩ := h
  refine ⟨G, P, F, s, _, R, h, fun x F1 H1 s1 dx R1 e1 d1 q1 => ⟨G, P, F1, s1, _, R1, q1, fun y F2 H2 s2 dy R2 e2 d2 q2 => ?_⟩⟩
  refine O.run _ _ R2.same (d1.mono e2) d2 q2 fun z F3 H3 dz f dzz q3 => ?_
  have R3 := R2.fresh f
  cases dz with
  | bool t =>
    cases dzz
    refine ⟨t, rfl, ?_⟩
    cases t with
    | true =>
      dsimp only at q3
      rw [if_pos rfl] at q3 ⊢
      refine ⟨G, P, F3, s2, _, R3, q3, fun u F4 H4 s4 du R4 e4 d4 q4 => ?_⟩
      exact O'.run _ _ R4.same (d2.mono (f.ff.trans e4)) d4 q4 fun z2 F5 H5 d5 f5 dq5 q5 => k z2 F5 H5 s4 d5 (R4.fresh f5) ((((e1.trans e2).trans f.ff).trans e4).trans f5.ff) dq5 q5
    | false =>
      dsimp only at q3
      rw [if_neg Bool.false_ne_true] at q3 ⊢
      exact k _ F3 H3 s2 _ R3 ((e1.trans e2).trans f.ff) (.bl false) q3
  | _ => exact q3.elim
end
end DL
/-! DL, tenth part: lemmas for the reading. -/
namespace DL
open PySem PySem.Spec PyProof.Rows L2
theorem ixN_lt {n : Nat} {k : Int} (h0 : 0 ≤ k) (h1 : k < n) : ixN n k = some k.toNat := by
  unfold ixN
  rw [if_pos h0, if_pos h1]
theorem atI_lt {α : Type} {xs : List α} {k : Int} (h0 : 0 ≤ k) (h1 : k < xs.length) : atI xs k = some (xs[k.toNat]'(by omega)) := by
  unfold atI
  rw [ixN_lt h0 h1]
  exact List.getElem?_eq_getElem (by omega)
theorem atI_zero {α : Type} {x : α} {xs : List α} : atI (x :: xs) 0 = some x := by
  rw [atI_lt (by omega) (by simp)]
  rfl
@[simp] theorem atI_cons0 {α : Type} (x : α) (xs : List α) : atI (x :: xs) 0 = some x := atI_zero
theorem ixN_zero {n : Nat} : ixN (n + 1) 0 = some 0 := by
  rw [ixN_lt (by omega) (by omega)]
  rfl
theorem sz_le {n : Nat} (h : n ≤ 16777216) : n ≤ sizeLine := by rw [sizeLine_eq]; exact h
theorem sz_lt {n : Nat} (h : n < 16777216) : n < sizeLine := by rw [sizeLine_eq]; exact h
theorem PoolOk.head {q : List Int} (h : PoolOk q) : ∃ a t, q = a :: t ∧ 0 ≤ a ∧ 300 ≤ t.length ∧ t.length < 100000 ∧ ∀ n ∈ t, 0 ≤ n ∧ n < 60 := by
  cases q with
  | nil => have := h.lo; simp at this
  | cons a t =>
    have h1 := h.lo
    have h2 := h.hi
    rw [List.length_cons] at h1 h2
    exact ⟨a, t, rfl, h.h0 a List.mem_cons_self, by omega, by omega, fun n hn => ⟨h.h0 n (List.mem_cons_of_mem _ hn), h.nn n hn⟩⟩
theorem PoolOk.mk' {a : Int} {t : List Int} (h0 : 0 ≤ a) (h1 : 300 ≤ t.length) (h2 : t.length < 100000) (h3 : ∀ n ∈ t, 0 ≤ n ∧ n < 60) : PoolOk (a :: t) where
  lo := by rw [List.length_cons]; omega
  hi := by rw [List.length_cons]; omega
  h0 := fun n hn => by
    rcases List.mem_cons.mp hn with rfl | hn
    · exact h0
    · exact (h3 n hn).1
  nn := fun n hn => (h3 n hn).2
/-- a loop over any list, an invariant by the items gone through: each turn for every end -/
theorem loop_inv {wg : DG} {wb : DS} {Φ : EN} (xs : List PyData) (Inv : List PyData → S → Prop) {s : S} (h0 : Inv [] s)
    (hs : ∀ pre x post s, xs = pre ++ x :: post → Inv pre s → ∀ Ψ : EN, (∀ s, Inv (pre ++ [x]) s → Ψ.nx s) → (∀ s, Inv (pre ++ [x]) s → Ψ.ct s) → Ψ.rt = Φ.rt → Ψ.bk = Φ.nx → Ψ.rl = Φ.rl → wg x s fun s1 => wb Ψ s1)
    (hd : ∀ s, Inv xs s → Φ.nx s) : loopW wg wb Φ xs s := by
  have key : ∀ (post pre : List PyData) (s : S), xs = pre ++ post → Inv pre s → loopW wg wb Φ post s := by
    intro post
    induction post with
    | nil =>
      intro pre s e q
      rw [List.append_nil] at e
      subst e
      exact hd s q
    | cons x post ih =>
      intro pre s e q
      have e2 : xs = (pre ++ [x]) ++ post := by rw [e, List.append_assoc]; rfl
      exact hs pre x post s e q _ (fun s2 z => ih _ s2 e2 z) (fun s2 z => ih _ s2 e2 z) rfl rfl rfl
  exact key xs [] s rfl h0
/-- .. over a range: the turn's number -/
theorem loop_rng {wg : DG} {wb : DS} {Φ : EN} {lo : Int} {n : Nat} (Inv : Nat → S → Prop) {s : S} (h0 : Inv 0 s)
    (hs : ∀ i s, i < n → Inv i s → ∀ Ψ : EN, (∀ s, Inv (i + 1) s → Ψ.nx s) → (∀ s, Inv (i + 1) s → Ψ.ct s) → Ψ.rt = Φ.rt → Ψ.bk = Φ.nx → Ψ.rl = Φ.rl → wg (.int (lo + (i : Int))) s fun s1 => wb Ψ s1)
    (hd : ∀ s, Inv n s → Φ.nx s) : loopW wg wb Φ (rangeD lo n) s := by
  refine loop_inv (rangeD lo n) (fun pre s => Inv pre.length s) h0 (fun pre x post s e q Ψ h1 h2 h3 h4 h5 => ?_) (fun s q => hd s (by rw [rangeD_len] at q; exact q))
  have hx : (rangeD lo n)[pre.length]? = some x := by rw [e]; simp
  obtain ⟨hi, rfl⟩ := rangeD_get hx
  exact hs pre.length s hi q Ψ (fun s z => h1 s (by simpa using z)) (fun s z => h2 s (by simpa using z)) h3 h4 h5
/-- a comprehension, an invariant by the items gone through, what is made and the pool -/
theorem lc_inv {vs : List Nat} {e0 : List Sl} {wg : DG} {wt : DT} {we : DE} {Φ : List PyData → List Int → Prop} (xs : List PyData) (Inv : List PyData → List PyData → List Int → Prop) {q : List Int} (h0 : Inv [] [] q)
    (hs : ∀ pre x post acc q, xs = pre ++ x :: post → Inv pre acc q → ∀ Ψ : List PyData → List Int → Prop, (∀ acc q, Inv (pre ++ [x]) acc q → Ψ acc q) → wg x ⟨wipeE e0 vs, q⟩ fun s1 => wipeE s1.e vs = wipeE e0 vs ∧ wt s1 fun b s2 => s2.e = s1.e ∧
      (if b = true then we s2 fun y s3 => s3.e = s1.e ∧ acc.length < sizeLine ∧ Ψ (acc ++ [y]) s3.q else Ψ acc s2.q))
    (hd : ∀ acc q, Inv xs acc q → Φ acc q) : lcW vs e0 wg wt we Φ xs [] q := by
  have key : ∀ (post pre acc : List PyData) (q : List Int), xs = pre ++ post → Inv pre acc q → lcW vs e0 wg wt we Φ post acc q := by
    intro post
    induction post with
    | nil =>
      intro pre acc q e z
      rw [List.append_nil] at e
      subst e
      exact hd acc q z
    | cons x post ih =>
      intro pre acc q e z
      have e2 : xs = (pre ++ [x]) ++ post := by rw [e, List.append_assoc]; rfl
      exact hs pre x post acc q e z (fun acc q => lcW vs e0 wg wt we Φ post acc q) (fun acc q z2 => ih _ acc q e2 z2)
  exact key xs [] [] q rfl h0
/-- a comprehension that only maps -/
theorem lc_map {vs : List Nat} {e0 : List Sl} {wg : DG} {we : DE} {Φ : List PyData → List Int → Prop} (xs : List PyData) (f : PyData → PyData) {q : List Int} (hl : xs.length ≤ 16777216)
    (hs : ∀ x, x ∈ xs → ∀ Θ : S → PyData → S → Prop, (∀ s1 s3, s3.e = s1.e → s3.q = q → Θ s1 (f x) s3) → wg x ⟨wipeE e0 vs, q⟩ fun s1 => wipeE s1.e vs = wipeE e0 vs ∧ we s1 (Θ s1))
    (hd : Φ (xs.map f) q) : lcW vs e0 wg wYes we Φ xs [] q := by
  refine lc_inv xs (fun pre acc q' => acc = pre.map f ∧ q' = q) ⟨rfl, rfl⟩ (fun pre x post acc q' e h Ψ k => ?_) (fun acc q' h => by rw [h.1, h.2]; exact hd)
  obtain ⟨rfl, rfl⟩ := h
  have hx : x ∈ xs := by rw [e]; simp
  have hlen : (pre.map f).length < sizeLine := sz_lt (by
    rw [e] at hl
    simp at hl ⊢
    omega)
  have r := hs x hx (fun s1 y s3 => s3.e = s1.e ∧ (pre.map f).length < sizeLine ∧ Ψ (pre.map f ++ [y]) s3.q) (fun s1 s3 h1 h2 => ⟨h1, hlen, k _ _ ⟨by simp, h2⟩⟩)
  simp only [wYes, true_and, if_true]
  exact r
end DL
/-! promises of what all laws draw with -/
namespace DL
open PySem PySem.Spec L2
def sp_pool : DSpS := fun ns Φ => ns.length ≤ 63 ∧ ∀ q : List Int, 300 ≤ q.length → q.length ≤ 90000 → (∀ n ∈ q, 0 ≤ n ∧ n < 60) → Φ (q.map .int)
def sp_pick : DSpP := fun ds q Φ => ∃ m, ds = [.int m] ∧ 0 < m ∧ PoolOk q ∧ ∀ n q', PoolOk q' → 0 ≤ n → n < m → n < 60 → Φ (.int n) q'
/-- letters: up to m signs from a to z -/
structure Letters (m : Int) (z : Str) : Prop where
  lo : 1 ≤ z.length
  hi : (z.length : Int) ≤ m
  az : ∀ c ∈ z.cps.toList, 97 ≤ c ∧ c ≤ 122
def sp_letters : DSpP := fun ds q Φ => ∃ m, ds = [.int m] ∧ 1 ≤ m ∧ m ≤ 6 ∧ PoolOk q ∧ ∀ z q', PoolOk q' → Letters m z → Φ (.str z) q'
end DL
/-! rules, what words they have, and the promises of law k17's defs -/
namespace DL
open PySem PySem.Spec L2
inductive All2 {α β : Type} (R : α → β → Prop) : List α → List β → Prop
  | nil : All2 R [] []
  | cons {a : α} {b : β} {as : List α} {bs : List β} : R a b → All2 R as bs → All2 R (a :: as) (b :: bs)
abbrev Rel := Nat → Nat → Prop
def Tidy (n : Nat) (P : Rel) : Prop := ∀ b e, P b e → b ≤ e ∧ e ≤ n
def rno : Rel := fun _ _ => False
def rid (n : Nat) : Rel := fun b e => b = e ∧ e ≤ n
def rup (n : Nat) : Rel := fun b e => b ≤ e ∧ e ≤ n
def rcomp (P Q : Rel) : Rel := fun b e => ∃ m, P b m ∧ Q m e
def ror (P Q : Rel) : Rel := fun b e => P b e ∨ Q b e
def rand (P Q : Rel) : Rel := fun b e => P b e ∧ Q b e
def rnot (n : Nat) (P : Rel) : Rel := fun b e => (b ≤ e ∧ e ≤ n) ∧ ¬ P b e
def rrow (n : Nat) : List Rel → Rel
  | [] => rid n
  | P :: Ps => rcomp P (rrow n Ps)
def rany : List Rel → Rel
  | [] => rno
  | P :: Ps => ror P (rany Ps)
def rall (n : Nat) : List Rel → Rel
  | [] => rup n
  | P :: Ps => rand P (rall n Ps)
/-- P so often, then Q -/
def rpow (P Q : Rel) : Nat → Rel
  | 0 => Q
  | k + 1 => rcomp P (rpow P Q k)
inductive Rstar (n : Nat) (P : Rel) : Nat → Nat → Prop
  | refl {b : Nat} : b ≤ n → Rstar n P b b
  | step {b m e : Nat} : P b m → b < m → Rstar n P m e → Rstar n P b e
def rtimes (n : Nat) (P : Rel) (lo : Nat) : Option Nat → Rel
  | none => rpow P (Rstar n P) lo
  | some hi => rpow P (rpow (ror P (rid n)) (rid n) (hi - lo)) lo
abbrev Den := Str → Rel
def Az (z : Str) : Prop := ∀ c ∈ z.cps.toList, 97 ≤ c ∧ c ≤ 122
def dOne (z : Str) : Den := fun w b e => e = b + 1 ∧ ∃ c, w.cps.toList[b]? = some c ∧ c ∈ z.cps.toList
def hiD : Option Nat → PyData
  | none => .none
  | some h => .int (h : Nat)
inductive Leaf : PyData → Den → Prop
  | no : Leaf (.tuple [.str "none"]) fun _ => rno
  | em : Leaf (.tuple [.str "empty"]) fun w => rid w.length
  | one {z : Str} : 1 ≤ z.length → z.length ≤ 6 → Az z → Leaf (.tuple [.str "one", .str z]) (dOne z)
inductive Node (R : PyData → Den → Prop) : PyData → Den → Prop
  | leaf {x : PyData} {D : Den} : Leaf x D → Node R x D
  | row {xs : List PyData} {Ds : List Den} : 1 ≤ xs.length → xs.length ≤ 6 → All2 R xs Ds → Node R (.tuple [.str "row", .list xs]) fun w => rrow w.length (Ds.map (· w))
  | ei {xs : List PyData} {Ds : List Den} : 1 ≤ xs.length → xs.length ≤ 6 → All2 R xs Ds → Node R (.tuple [.str "either", .list xs]) fun w => rany (Ds.map (· w))
  | bo {xs : List PyData} {Ds : List Den} : 1 ≤ xs.length → xs.length ≤ 6 → All2 R xs Ds → Node R (.tuple [.str "both", .list xs]) fun w => rall w.length (Ds.map (· w))
  | no {x : PyData} {D : Den} : R x D → Node R (.tuple [.str "not", x]) fun w => rnot w.length (D w)
  | ti {x : PyData} {D : Den} {lo : Nat} {hi : Option Nat} : R x D → lo ≤ 8 → (∀ h, hi = some h → lo ≤ h ∧ h ≤ 8) → Node R (.tuple [.str "times", x, .int (lo : Nat), hiD hi]) fun w => rtimes w.length (D w) lo hi
def Rul : Nat → PyData → Den → Prop
  | 0 => Leaf
  | d + 1 => Node (Rul d)
/-- whole numbers from a rule of their places -/
def mkI (n : Nat) (f : Nat → Nat) : List PyData := (List.range n).map fun b => .int (f b : Nat)
def MaskL (n : Nat) (P : Rel) (xs : List PyData) : Prop := ∃ f : Nat → Nat, xs = mkI (n + 1) f ∧ ∀ b, b ≤ n → ∀ e, (f b).testBit e = true ↔ P b e
def MaskD (n : Nat) (P : Rel) (x : PyData) : Prop := ∃ xs, x = .list xs ∧ MaskL n P xs
def mkT (n : Nat) (g : Nat → Nat → Nat) : List PyData := (List.range n).map fun b => .list (mkI n (g b))
structure TabOk (γ n : Nat) (P : Rel) (g : Nat → Nat → Nat) : Prop where
  iff : ∀ b e, b ≤ n → e ≤ n → (g b e ≠ 0 ↔ P b e)
  le : ∃ α β, α + β + 1 ≤ γ ∧ ∀ b e, b ≤ e → e ≤ n → g b e ≤ 2 ^ (α + β * (e - b))
def TabL (γ n : Nat) (P : Rel) (xs : List PyData) : Prop := ∃ g, xs = mkT (n + 1) g ∧ TabOk γ n P g
def TabD (γ n : Nat) (P : Rel) (x : PyData) : Prop := ∃ xs, x = .list xs ∧ TabL γ n P xs
def TreeD (γ n : Nat) (P : Rel) (x : PyData) : Prop := ∃ r t i s, x = .tuple [r, t, i, s] ∧ TabD γ n P t
def gam : Nat → Nat
  | 0 => 1
  | d + 1 => 9 * gam d + 9
def lenD : Nat → Nat
  | 0 => 4
  | d + 1 => 11 * lenD d
-- the program
def sp_rules_in : DSp := fun ds Φ => (∃ s xs, ds = [.tuple [.str s, .list xs]] ∧ (s = "row" ∨ s = "either" ∨ s = "both") ∧ xs.length ≤ 1000 ∧ Φ (.list xs)) ∨ ∃ s x ys, ds = [.tuple (.str s :: x :: ys)] ∧ (s = "not" ∨ s = "times") ∧ Φ (.list [x])
def sp_only_empty : DSp := fun ds Φ => ∃ n : Nat, ds = [.int (n + 1 : Nat)] ∧ n ≤ 31 ∧ ∀ x, MaskD n (rid n) x → Φ x
def sp_in_some : DSp := fun ds Φ => ∃ n xs Ps, ds = [.list xs] ∧ n ≤ 31 ∧ xs ≠ [] ∧ xs.length ≤ 1000 ∧ All2 (MaskD n) (α := Rel) Ps xs ∧ ∀ x, MaskD n (rany Ps) x → Φ x
def sp_in_all : DSp := fun ds Φ => ∃ n xs Ps, ds = [.list xs] ∧ n ≤ 31 ∧ xs ≠ [] ∧ xs.length ≤ 1000 ∧ All2 (MaskD n) (α := Rel) Ps xs ∧ (∀ P, P ∈ Ps → Tidy n P) ∧ ∀ x, MaskD n (rall n Ps) x → Φ x
def sp_in_turn : DSpL := fun ds Φ => ∃ n x y P Q, ds = [x, y] ∧ n ≤ 31 ∧ Tidy n P ∧ Tidy n Q ∧ MaskD n P x ∧ MaskD n Q y ∧ ∀ xs, MaskL n (rcomp P Q) xs → Φ xs
def sp_all_in_turn : DSp := fun ds Φ => ∃ n xs Ps, ds = [.list xs] ∧ n ≤ 31 ∧ xs ≠ [] ∧ xs.length ≤ 1000 ∧ All2 (MaskD n) (α := Rel) Ps xs ∧ (∀ P, P ∈ Ps → Tidy n P) ∧ ∀ x, MaskD n (rrow n Ps) x → Φ x
def sp_any_turns : DSpL := fun ds Φ => ∃ n x P, ds = [x] ∧ n ≤ 31 ∧ Tidy n P ∧ MaskD n P x ∧ ∀ xs, MaskL n (Rstar n P) xs → Φ xs
def sp_in_times : DSp := fun ds Φ => ∃ (n : Nat) (x : PyData) (P : Rel) (lo : Nat) (hi : Option Nat), ds = [x, .int (lo : Nat), hiD hi] ∧ n ≤ 31 ∧ Tidy n P ∧ MaskD n P x ∧ lo ≤ 8 ∧ (∀ h, hi = some h → lo ≤ h ∧ h ≤ 8) ∧ ∀ x, MaskD n (rtimes n P lo hi) x → Φ x
def sp_pieces_of (d : Nat) : DSp := fun ds Φ => ∃ x D w, ds = [x, .str w] ∧ Rul d x D ∧ w.length ≤ 31 ∧ ∀ y, MaskD w.length (D w) y → Φ y
def sp_is_piece : DSp := fun ds Φ => ∃ (n : Nat) (x : PyData) (P : Rel) (b e : Nat), ds = [x, .int (b : Nat), .int (e : Nat)] ∧ n ≤ 31 ∧ MaskD n P x ∧ b ≤ n ∧ e ≤ 31 ∧ ∀ k, (k = true ↔ P b e) → Φ (.bool k)
def sp_is_of (d : Nat) : DSp := fun ds Φ => ∃ l x D w, ds = [l, x, .str w] ∧ Rul d x D ∧ w.length ≤ 31 ∧ ∀ k, (k = true ↔ D w 0 w.length) → Φ (.bool k)
-- the law
def sp_signs : DSpP := fun ds q Φ => ∃ z, ds = [.str z] ∧ 1 ≤ z.length ∧ z.length ≤ 6 ∧ Az z ∧ PoolOk q ∧ ∀ y q', PoolOk q' → 1 ≤ y.length → y.length ≤ 6 → Az y → Φ (.str y) q'
def sp_words : DSp := fun ds Φ => ∃ (z : Str) (k : Nat), ds = [.str z, .int (k : Nat)] ∧ z.length ≤ 6 ∧ k ≤ 4 ∧ (2 ≤ z.length → k ≤ 2) ∧ ∀ xs, xs.length ≤ 200 → (∀ x ∈ xs, ∃ w : Str, x = .str w ∧ w.length ≤ 4) → Φ (.list xs)
def sp_is_so : DSp := fun ds Φ => ∃ a b, ds = [.bool a, .bool b] ∧ Φ (.bool (a == b))
def sp_leaf : DSpP := fun ds q Φ => ∃ z, ds = [.str z] ∧ 1 ≤ z.length ∧ z.length ≤ 6 ∧ Az z ∧ PoolOk q ∧ ∀ x D q', PoolOk q' → Leaf x D → Φ x q'
def sp_rule (d : Nat) : DSpP := fun ds q Φ => ∃ (z : Str) (r : Nat), ds = [.str z, .int (r : Nat), .int (d : Nat), .bool true] ∧ 1 ≤ r ∧ r ≤ 100 ∧ 1 ≤ z.length ∧ z.length ≤ 6 ∧ Az z ∧ PoolOk q ∧ ∀ x D q', PoolOk q' → Rul d x D → Φ x q'
def sp_any_rule : DSpP := fun ds q Φ => ∃ (z : Str), ds = [.str z, .bool true] ∧ 1 ≤ z.length ∧ z.length ≤ 6 ∧ Az z ∧ PoolOk q ∧ ∀ d x D q', PoolOk q' → d ≤ 4 → Rul d x D → Φ x q'
def sp_joined : DSpL := fun ds Φ => ∃ γ δ n x y P Q, ds = [x, y] ∧ n ≤ 31 ∧ γ + δ ≤ 15000 ∧ Tidy n P ∧ Tidy n Q ∧ TabD γ n P x ∧ TabD δ n Q y ∧ ∀ xs, TabL (γ + δ) n (rcomp P Q) xs → Φ xs
def sp_any : DSpL := fun ds Φ => ∃ γ n x P, ds = [x] ∧ n ≤ 31 ∧ γ ≤ 15000 ∧ Tidy n P ∧ TabD γ n P x ∧ ∀ xs, TabL (γ + 1) n (Rstar n P) xs → Φ xs
def sp_rests : DSp := fun ds Φ => (∃ γ n xs ts Ps t, ds = [.tuple [.str "row", .list ts], .list xs, t] ∧ n ≤ 31 ∧ TabD 1 n (rid n) t ∧ xs.length ≤ 6 ∧ All2 (TreeD γ n) (α := Rel) Ps xs ∧ (∀ P, P ∈ Ps → Tidy n P) ∧ 9 * γ + 9 ≤ 15000 ∧ ∀ y ys, TabD (9 * γ + 9) n (rrow n Ps) y → Φ (.list (y :: ys))) ∨
  ∃ (γ n : Nat) (x u t : PyData) (P : Rel) (lo : Nat) (hi : Option Nat), ds = [.tuple [.str "times", x, .int (lo : Nat), hiD hi], .list [u], t] ∧ n ≤ 31 ∧ TabD 1 n (rid n) t ∧ TreeD γ n P u ∧ Tidy n P ∧ 9 * γ + 9 ≤ 15000 ∧ lo ≤ 8 ∧ (∀ h, hi = some h → lo ≤ h ∧ h ≤ 8) ∧ ∀ y ys, TabD (9 * γ + 9) n (rtimes n P lo hi) y → Φ (.list (y :: ys))
def sp_tree (d : Nat) : DSp := fun ds Φ => ∃ x D w, ds = [x, .str w] ∧ Rul d x D ∧ d ≤ 4 ∧ w.length ≤ 31 ∧ ∀ y, TreeD (gam d) w.length (D w) y → Φ y
def sp_count (d : Nat) : DSp := fun ds Φ => ∃ x D w, ds = [x, .str w] ∧ Rul d x D ∧ d ≤ 4 ∧ w.length ≤ 31 ∧ ∀ m : Nat, (m ≠ 0 ↔ D w 0 w.length) → Φ (.int (m : Nat))
def sp_down (d : Nat) : DSpP := fun ds q Φ => ∃ (z : Str) (x : PyData) (D : Den), ds = [.str z, x] ∧ Rul d x D ∧ d ≤ 4 ∧ 1 ≤ z.length ∧ z.length ≤ 6 ∧ PoolOk q ∧ ∀ (w : Str) q', PoolOk q' → w.length ≤ lenD d → Φ (.str w) q'
def sp_near : DSpP := fun ds q Φ => ∃ (z w : Str), ds = [.str z, .str w] ∧ 1 ≤ z.length ∧ z.length ≤ 6 ∧ w.length ≤ 30 ∧ PoolOk q ∧ ∀ (y : Str) q', PoolOk q' → y.length ≤ 31 → Φ (.str y) q'
def lenRel (m : Option Nat) : Den := fun w b e => (b ≤ e ∧ e ≤ w.length) ∧ ∀ k, m = some k → e - b ≤ k
def Over (z w : Str) : Prop := ∀ c ∈ w.cps.toList, c ∈ z.cps.toList
def sp_nested : DSpP := fun ds q Φ => ∃ (z : Str), ds = [.str z] ∧ 1 ≤ z.length ∧ z.length ≤ 6 ∧ Az z ∧ PoolOk q ∧ ∀ m x D q', PoolOk q' → Rul 5 x D → (∀ w, Over z w → ∀ b e, D w b e ↔ lenRel m w b e) → Φ (.tuple [hiD m, x]) q'
def sp_deep : DSpP := fun ds q Φ => ∃ (z : Str), ds = [.str z] ∧ 1 ≤ z.length ∧ z.length ≤ 6 ∧ Az z ∧ PoolOk q ∧ ∀ q', PoolOk q' → Φ (.bool true) q'
end DL
namespace DL
open PySem PySem.Spec L2
def sp_piecesU : DSp := fun ds Φ => ∃ d, d ≤ 6 ∧ sp_pieces_of d ds Φ
def sp_isU : DSp := fun ds Φ => ∃ d, d ≤ 6 ∧ sp_is_of d ds Φ
def sp_ruleU : DSpP := fun ds q Φ => ∃ d, d ≤ 4 ∧ sp_rule d ds q Φ
def sp_treeU : DSp := fun ds Φ => ∃ d, d ≤ 4 ∧ sp_tree d ds Φ
def sp_countU : DSp := fun ds Φ => ∃ d, d ≤ 4 ∧ sp_count d ds Φ
def sp_downU : DSpP := fun ds q Φ => ∃ d, d ≤ 4 ∧ sp_down d ds q Φ
end DL
/-! DL: lemmas for lists of numbers, bits, tables -/
namespace DL
open PySem PySem.Spec PyProof.Rows L2
@[simp] theorem flatD_str (s : Str) : flatD (.str s) = true := rfl
@[simp] theorem flatD_int (s : Int) : flatD (.int s) = true := rfl
@[simp] theorem flatD_none : flatD .none = true := rfl
@[simp] theorem atI_cons1 {α : Type} (x y : α) (xs : List α) : atI (x :: y :: xs) 1 = some y := by
  rw [atI_lt (by omega) (by simp; omega)]
  rfl
@[simp] theorem atI_cons2 {α : Type} (x y z : α) (xs : List α) : atI (x :: y :: z :: xs) 2 = some z := by
  rw [atI_lt (by omega) (by simp; omega)]
  rfl
@[simp] theorem atI_cons3 {α : Type} (x y z t : α) (xs : List α) : atI (x :: y :: z :: t :: xs) 3 = some t := by
  rw [atI_lt (by omega) (by simp; omega)]
  rfl
theorem mkI_len (n : Nat) (f : Nat → Nat) : (mkI n f).length = n := by
  unfold mkI
  rw [List.length_map, List.length_range]
theorem mkT_len (n : Nat) (g : Nat → Nat → Nat) : (mkT n g).length = n := by
  unfold mkT
  rw [List.length_map, List.length_range]
theorem mkI_get {n : Nat} {f : Nat → Nat} {i : Nat} (h : i < n) : (mkI n f)[i]? = some (.int (f i : Nat)) := by
  unfold mkI
  rw [List.getElem?_map, List.getElem?_range h]
  rfl
theorem mkT_get {n : Nat} {g : Nat → Nat → Nat} {i : Nat} (h : i < n) : (mkT n g)[i]? = some (.list (mkI n (g i))) := by
  unfold mkT
  rw [List.getElem?_map, List.getElem?_range h]
  rfl
theorem atI_nat {α : Type} {xs : List α} {i : Nat} (h : i < xs.length) : atI xs (i : Int) = xs[i]? := by
  rw [atI_lt (by omega) (by omega)]
  exact (List.getElem?_eq_getElem (by simpa using h)).symm
theorem atI_mkI {n : Nat} {f : Nat → Nat} {i : Nat} (h : i < n) : atI (mkI n f) (i : Int) = some (.int (f i : Nat)) := by
  rw [atI_nat (by rw [mkI_len]; exact h), mkI_get h]
theorem atI_mkT {n : Nat} {g : Nat → Nat → Nat} {i : Nat} (h : i < n) : atI (mkT n g) (i : Int) = some (.list (mkI n (g i))) := by
  rw [atI_nat (by rw [mkT_len]; exact h), mkT_get h]
theorem mkI_congr {n : Nat} {f g : Nat → Nat} (h : ∀ i, i < n → f i = g i) : mkI n f = mkI n g := by
  unfold mkI
  exact List.map_congr_left fun i hi => by rw [h i (List.mem_range.mp hi)]
theorem mkT_congr {n : Nat} {f g : Nat → Nat → Nat} (h : ∀ i j, i < n → j < n → f i j = g i j) : mkT n f = mkT n g := by
  unfold mkT
  exact List.map_congr_left fun i hi => by rw [mkI_congr fun j hj => h i j (List.mem_range.mp hi) hj]
theorem mkI_app (n : Nat) (f : Nat → Nat) : mkI n f ++ [.int (f n : Nat)] = mkI (n + 1) f := by
  unfold mkI
  rw [List.range_succ, List.map_append]
  rfl
/-- a map with one place put anew -/
def setF {α : Type} (r : Nat → α) (i : Nat) (v : α) : Nat → α := fun b => if b = i then v else r b
@[simp] theorem setF_same {α : Type} (r : Nat → α) (i : Nat) (v : α) : setF r i v i = v := if_pos rfl
theorem setF_ne {α : Type} {r : Nat → α} {i b : Nat} {v : α} (h : b ≠ i) : setF r i v b = r b := if_neg h
theorem mkI_snoc (n : Nat) (f : Nat → Nat) (v : Nat) : mkI n f ++ [.int (v : Nat)] = mkI (n + 1) (setF f n v) := by
  rw [← mkI_app, setF_same, mkI_congr fun b (hb : b < n) => setF_ne (r := f) (v := v) (Nat.ne_of_lt hb)]
theorem mkT_snoc (n m : Nat) (f : Nat → Nat → Nat) (v : Nat → Nat) : ((List.range n).map fun b => PyData.list (mkI m (f b))) ++ [.list (mkI m v)] = (List.range (n + 1)).map fun b => PyData.list (mkI m (setF f n v b)) := by
  rw [List.range_succ, List.map_append, List.map_singleton, setF_same]
  congr 1
  exact List.map_congr_left fun i hi => by rw [setF_ne (Nat.ne_of_lt (List.mem_range.mp hi))]
theorem mkI_set {n i : Nat} {f : Nat → Nat} {v : Nat} (h : i < n) : (mkI n f).set i (.int (v : Nat)) = mkI n (setF f i v) := by
  apply List.ext_getElem?
  intro j
  rw [List.getElem?_set]
  by_cases hj : j < n
  · by_cases hij : i = j
    · subst hij
      rw [if_pos rfl, mkI_len, if_pos h, mkI_get hj, setF_same]
    · rw [if_neg hij, mkI_get hj, mkI_get hj, setF_ne (Ne.symm hij)]
  · rw [List.getElem?_eq_none (l := mkI n (setF f i v)) (by rw [mkI_len]; omega), if_neg (by omega), List.getElem?_eq_none (by rw [mkI_len]; omega)]
theorem mkT_set {n i : Nat} {g : Nat → Nat → Nat} {v : Nat → Nat} (h : i < n) : (mkT n g).set i (.list (mkI n v)) = mkT n (setF g i v) := by
  apply List.ext_getElem?
  intro j
  rw [List.getElem?_set]
  by_cases hj : j < n
  · by_cases hij : i = j
    · subst hij
      rw [if_pos rfl, mkT_len, if_pos h, mkT_get hj, setF_same]
    · rw [if_neg hij, mkT_get hj, mkT_get hj, setF_ne (Ne.symm hij)]
  · rw [List.getElem?_eq_none (l := mkT n (setF g i v)) (by rw [mkT_len]; omega), if_neg (by omega), List.getElem?_eq_none (by rw [mkT_len]; omega)]
theorem ixN_nat {n i : Nat} (h : i < n) : ixN n (i : Int) = some i := by
  rw [ixN_lt (by omega) (by omega), Int.toNat_natCast]
/-! loops by the number of the turn -/
theorem loop_ix {wg : DG} {wb : DS} {Φ : EN} (xs : List PyData) (Inv : Nat → S → Prop) {s : S} (h0 : Inv 0 s)
    (hs : ∀ i x s, xs[i]? = some x → Inv i s → ∀ Ψ : EN, (∀ s, Inv (i + 1) s → Ψ.nx s) → (∀ s, Inv (i + 1) s → Ψ.ct s) → Ψ.rt = Φ.rt → Ψ.bk = Φ.nx → Ψ.rl = Φ.rl → wg x s fun s1 => wb Ψ s1)
    (hd : ∀ s, Inv xs.length s → Φ.nx s) : loopW wg wb Φ xs s := by
  refine loop_inv xs (fun pre s => Inv pre.length s) h0 (fun pre x post s e q Ψ h1 h2 h3 h4 h5 => ?_) (fun s q => hd s q)
  exact hs pre.length x s (by rw [e]; simp) q Ψ (fun s z => h1 s (by simpa using z)) (fun s z => h2 s (by simpa using z)) h3 h4 h5
theorem loop_enumI {wg : DG} {wb : DS} {Φ : EN} {n : Nat} {f : Nat → Nat} (Inv : Nat → S → Prop) {s : S} (h0 : Inv 0 s)
    (hs : ∀ i s, i < n → Inv i s → ∀ Ψ : EN, (∀ s, Inv (i + 1) s → Ψ.nx s) → (∀ s, Inv (i + 1) s → Ψ.ct s) → Ψ.rt = Φ.rt → Ψ.bk = Φ.nx → Ψ.rl = Φ.rl → wg (.tuple [.int (i : Nat), .int (f i : Nat)]) s fun s1 => wb Ψ s1)
    (hd : ∀ s, Inv n s → Φ.nx s) : loopW wg wb Φ (enumD (mkI n f)) s := by
  refine loop_ix (enumD (mkI n f)) Inv h0 (fun i x s hx q Ψ h1 h2 h3 h4 h5 => ?_) (fun s q => hd s (by rw [enumD_len, mkI_len] at q; exact q))
  obtain ⟨y, hy, rfl⟩ := enumD_get hx
  have hi : i < n := by rw [← mkI_len n f]; exact (List.getElem?_eq_some_iff.mp hy).1
  rw [mkI_get hi] at hy
  cases hy
  exact hs i s hi q Ψ h1 h2 h3 h4 h5
/-- range(n - 1, -1, -1): from the last one down -/
theorem rangeC_get {lo c : Int} {n i : Nat} {x : PyData} (h : (rangeC lo c n)[i]? = some x) : i < n ∧ x = .int (lo + (i : Int) * c) := by
  have hi : i < n := by rw [← rangeC_len lo c n]; exact (List.getElem?_eq_some_iff.mp h).1
  unfold rangeC at h
  rw [List.getElem?_map, List.getElem?_range hi] at h
  cases h
  exact ⟨hi, rfl⟩
/-! comprehensions that map, by the number of the turn -/
theorem lc_ix {vs : List Nat} {e0 : List Sl} {wg : DG} {we : DE} {Φ : List PyData → List Int → Prop} (xs : List PyData) (F : Nat → PyData) {q : List Int} (hl : xs.length ≤ 16777216)
    (hs : ∀ i x, xs[i]? = some x → ∀ Θ : S → PyData → S → Prop, (∀ s1 s3, s3.e = s1.e → s3.q = q → Θ s1 (F i) s3) → wg x ⟨wipeE e0 vs, q⟩ fun s1 => wipeE s1.e vs = wipeE e0 vs ∧ we s1 (Θ s1))
    (hd : Φ ((List.range xs.length).map F) q) : lcW vs e0 wg wYes we Φ xs [] q := by
  refine lc_inv xs (fun pre acc q' => acc = (List.range pre.length).map F ∧ q' = q) ⟨rfl, rfl⟩ (fun pre x post acc q' e h Ψ k => ?_) (fun acc q' h => by rw [h.1, h.2]; exact hd)
  obtain ⟨rfl, rfl⟩ := h
  have hlen : ((List.range pre.length).map F).length < sizeLine := sz_lt (by
    rw [e] at hl
    simp at hl ⊢
    omega)
  have r := hs pre.length x (by rw [e]; simp) (fun s1 y s3 => s3.e = s1.e ∧ ((List.range pre.length).map F).length < sizeLine ∧ Ψ ((List.range pre.length).map F ++ [y]) s3.q)
    (fun s1 s3 h1 h2 => ⟨h1, hlen, k _ _ ⟨by rw [List.length_append, List.length_singleton, List.range_succ, List.map_append]; rfl, h2⟩⟩)
  simp only [wYes, true_and, if_true]
  exact r
theorem lc_rng {vs : List Nat} {e0 : List Sl} {wg : DG} {we : DE} {Φ : List PyData → List Int → Prop} {lo : Int} {n : Nat} (F : Nat → PyData) {q : List Int} (hl : n ≤ 16777216)
    (hs : ∀ i, i < n → ∀ Θ : S → PyData → S → Prop, (∀ s1 s3, s3.e = s1.e → s3.q = q → Θ s1 (F i) s3) → wg (.int (lo + (i : Int))) ⟨wipeE e0 vs, q⟩ fun s1 => wipeE s1.e vs = wipeE e0 vs ∧ we s1 (Θ s1))
    (hd : Φ ((List.range n).map F) q) : lcW vs e0 wg wYes we Φ (rangeD lo n) [] q := by
  refine lc_ix (rangeD lo n) F (by rw [rangeD_len]; exact hl) (fun i x hx Θ k => ?_) (by rw [rangeD_len]; exact hd)
  obtain ⟨hi, rfl⟩ := rangeD_get hx
  exact hs i hi Θ k
theorem lc_enumI {vs : List Nat} {e0 : List Sl} {wg : DG} {we : DE} {Φ : List PyData → List Int → Prop} {n : Nat} {f : Nat → Nat} (F : Nat → PyData) {q : List Int} (hl : n ≤ 16777216)
    (hs : ∀ i, i < n → ∀ Θ : S → PyData → S → Prop, (∀ s1 s3, s3.e = s1.e → s3.q = q → Θ s1 (F i) s3) → wg (.tuple [.int (i : Nat), .int (f i : Nat)]) ⟨wipeE e0 vs, q⟩ fun s1 => wipeE s1.e vs = wipeE e0 vs ∧ we s1 (Θ s1))
    (hd : Φ ((List.range n).map F) q) : lcW vs e0 wg wYes we Φ (enumD (mkI n f)) [] q := by
  refine lc_ix (enumD (mkI n f)) F (by rw [enumD_len, mkI_len]; exact hl) (fun i x hx Θ k => ?_) (by rw [enumD_len, mkI_len]; exact hd)
  obtain ⟨y, hy, rfl⟩ := enumD_get hx
  have hi : i < n := by rw [← mkI_len n f]; exact (List.getElem?_eq_some_iff.mp hy).1
  rw [mkI_get hi] at hy
  cases hy
  exact hs i hi Θ k
theorem lc_zipI {vs : List Nat} {e0 : List Sl} {wg : DG} {we : DE} {Φ : List PyData → List Int → Prop} {n : Nat} {f g : Nat → Nat} (F : Nat → PyData) {q : List Int} (hl : n ≤ 16777216)
    (hs : ∀ i, i < n → ∀ Θ : S → PyData → S → Prop, (∀ s1 s3, s3.e = s1.e → s3.q = q → Θ s1 (F i) s3) → wg (.tuple [.int (f i : Nat), .int (g i : Nat)]) ⟨wipeE e0 vs, q⟩ fun s1 => wipeE s1.e vs = wipeE e0 vs ∧ we s1 (Θ s1))
    (hd : Φ ((List.range n).map F) q) : lcW vs e0 wg wYes we Φ (zipD (mkI n f) (mkI n g)) [] q := by
  have hl2 : (zipD (mkI n f) (mkI n g)).length = n := by
    unfold zipD
    rw [List.length_map, List.length_zip, mkI_len, mkI_len, Nat.min_self]
  refine lc_ix (zipD (mkI n f) (mkI n g)) F (by rw [hl2]; exact hl) (fun i x hx Θ k => ?_) (by rw [hl2]; exact hd)
  have hi : i < n := by rw [← hl2]; exact (List.getElem?_eq_some_iff.mp hx).1
  obtain ⟨y, z, hy, hz, rfl⟩ := zipD_get hx
  rw [mkI_get hi] at hy hz
  cases hy
  cases hz
  exact hs i hi Θ k
/-! bits -/
theorem bitNot_eq (x : Int) : Builtin.bitNot x = -x - 1 := by
  unfold Builtin.bitNot
  omega
theorem band_nat (a b : Nat) : Builtin.bitAnd (a : Int) (b : Int) = ((a &&& b : Nat) : Int) := by simp [Builtin.bitAnd]
theorem bor_nat (a b : Nat) : Builtin.bitOr (a : Int) (b : Int) = ((a ||| b : Nat) : Int) := by
  have h1 : decide ((0 : Int) ≤ -(a : Int) - 1) = false := by simp; omega
  have h2 : decide ((0 : Int) ≤ -(b : Int) - 1) = false := by simp; omega
  have e1 : (-(-(a : Int) - 1) - 1).toNat = a := by omega
  have e2 : (-(-(b : Int) - 1) - 1).toNat = b := by omega
  unfold Builtin.bitOr Builtin.bitAnd
  simp only [bitNot_eq, h1, h2, e1, e2]
  omega
theorem bxor_nat (a b : Nat) : Builtin.bitXor (a : Int) (b : Int) = ((a ^^^ b : Nat) : Int) := by
  have e1 : ((a ^^^ b) ||| (a &&& b)) = (a ||| b) := Nat.eq_of_testBit_eq fun i => by
    simp only [Nat.testBit_or, Nat.testBit_xor, Nat.testBit_and]
    cases a.testBit i <;> cases b.testBit i <;> rfl
  have e2 : ((a ^^^ b) &&& (a &&& b)) = 0 := Nat.eq_of_testBit_eq fun i => by
    simp only [Nat.testBit_and, Nat.testBit_xor, Nat.zero_testBit]
    cases a.testBit i <;> cases b.testBit i <;> rfl
  have e3 := nat_or_add_and (a ^^^ b) (a &&& b)
  rw [e1, e2] at e3
  unfold Builtin.bitXor
  rw [bor_nat, band_nat]
  omega
theorem shr_nat (a k : Nat) : (a : Int) / 2 ^ k = ((a >>> k : Nat) : Int) := by
  rw [Nat.shiftRight_eq_div_pow]
  simp
theorem shl_nat (a k : Nat) : (a : Int) * 2 ^ k = ((a <<< k : Nat) : Int) := by
  rw [Nat.shiftLeft_eq]
  simp
theorem shr_one (a k : Nat) : Builtin.bitAnd ((a : Int) / 2 ^ k) 1 = if a.testBit k then 1 else 0 := by
  rw [shr_nat, show (1 : Int) = ((1 : Nat) : Int) from rfl, band_nat, Nat.and_one_is_mod, Nat.testBit_eq_decide_div_mod_eq, Nat.shiftRight_eq_div_pow]
  have := Nat.mod_two_eq_zero_or_one (a / 2 ^ k)
  by_cases h : a / 2 ^ k % 2 = 1
  · simp [h]
  · have h0 : a / 2 ^ k % 2 = 0 := by omega
    simp [h0]
/-! the kinds of rules differ -/
@[simp] theorem kd_none_empty : ¬ Str.ofString "none" = Str.ofString "empty" := by decide +kernel
@[simp] theorem kd_none_one : ¬ Str.ofString "none" = Str.ofString "one" := by decide +kernel
@[simp] theorem kd_none_row : ¬ Str.ofString "none" = Str.ofString "row" := by decide +kernel
@[simp] theorem kd_none_either : ¬ Str.ofString "none" = Str.ofString "either" := by decide +kernel
@[simp] theorem kd_none_both : ¬ Str.ofString "none" = Str.ofString "both" := by decide +kernel
@[simp] theorem kd_none_not : ¬ Str.ofString "none" = Str.ofString "not" := by decide +kernel
@[simp] theorem kd_none_times : ¬ Str.ofString "none" = Str.ofString "times" := by decide +kernel
@[simp] theorem kd_empty_none : ¬ Str.ofString "empty" = Str.ofString "none" := by decide +kernel
@[simp] theorem kd_empty_one : ¬ Str.ofString "empty" = Str.ofString "one" := by decide +kernel
@[simp] theorem kd_empty_row : ¬ Str.ofString "empty" = Str.ofString "row" := by decide +kernel
@[simp] theorem kd_empty_either : ¬ Str.ofString "empty" = Str.ofString "either" := by decide +kernel
@[simp] theorem kd_empty_both : ¬ Str.ofString "empty" = Str.ofString "both" := by decide +kernel
@[simp] theorem kd_empty_not : ¬ Str.ofString "empty" = Str.ofString "not" := by decide +kernel
@[simp] theorem kd_empty_times : ¬ Str.ofString "empty" = Str.ofString "times" := by decide +kernel
@[simp] theorem kd_one_none : ¬ Str.ofString "one" = Str.ofString "none" := by decide +kernel
@[simp] theorem kd_one_empty : ¬ Str.ofString "one" = Str.ofString "empty" := by decide +kernel
@[simp] theorem kd_one_row : ¬ Str.ofString "one" = Str.ofString "row" := by decide +kernel
@[simp] theorem kd_one_either : ¬ Str.ofString "one" = Str.ofString "either" := by decide +kernel
@[simp] theorem kd_one_both : ¬ Str.ofString "one" = Str.ofString "both" := by decide +kernel
@[simp] theorem kd_one_not : ¬ Str.ofString "one" = Str.ofString "not" := by decide +kernel
@[simp] theorem kd_one_times : ¬ Str.ofString "one" = Str.ofString "times" := by decide +kernel
@[simp] theorem kd_row_none : ¬ Str.ofString "row" = Str.ofString "none" := by decide +kernel
@[simp] theorem kd_row_empty : ¬ Str.ofString "row" = Str.ofString "empty" := by decide +kernel
@[simp] theorem kd_row_one : ¬ Str.ofString "row" = Str.ofString "one" := by decide +kernel
@[simp] theorem kd_row_either : ¬ Str.ofString "row" = Str.ofString "either" := by decide +kernel
@[simp] theorem kd_row_both : ¬ Str.ofString "row" = Str.ofString "both" := by decide +kernel
@[simp] theorem kd_row_not : ¬ Str.ofString "row" = Str.ofString "not" := by decide +kernel
@[simp] theorem kd_row_times : ¬ Str.ofString "row" = Str.ofString "times" := by decide +kernel
@[simp] theorem kd_either_none : ¬ Str.ofString "either" = Str.ofString "none" := by decide +kernel
@[simp] theorem kd_either_empty : ¬ Str.ofString "either" = Str.ofString "empty" := by decide +kernel
@[simp] theorem kd_either_one : ¬ Str.ofString "either" = Str.ofString "one" := by decide +kernel
@[simp] theorem kd_either_row : ¬ Str.ofString "either" = Str.ofString "row" := by decide +kernel
@[simp] theorem kd_either_both : ¬ Str.ofString "either" = Str.ofString "both" := by decide +kernel
@[simp] theorem kd_either_not : ¬ Str.ofString "either" = Str.ofString "not" := by decide +kernel
@[simp] theorem kd_either_times : ¬ Str.ofString "either" = Str.ofString "times" := by decide +kernel
@[simp] theorem kd_both_none : ¬ Str.ofString "both" = Str.ofString "none" := by decide +kernel
@[simp] theorem kd_both_empty : ¬ Str.ofString "both" = Str.ofString "empty" := by decide +kernel
@[simp] theorem kd_both_one : ¬ Str.ofString "both" = Str.ofString "one" := by decide +kernel
@[simp] theorem kd_both_row : ¬ Str.ofString "both" = Str.ofString "row" := by decide +kernel
@[simp] theorem kd_both_either : ¬ Str.ofString "both" = Str.ofString "either" := by decide +kernel
@[simp] theorem kd_both_not : ¬ Str.ofString "both" = Str.ofString "not" := by decide +kernel
@[simp] theorem kd_both_times : ¬ Str.ofString "both" = Str.ofString "times" := by decide +kernel
@[simp] theorem kd_not_none : ¬ Str.ofString "not" = Str.ofString "none" := by decide +kernel
@[simp] theorem kd_not_empty : ¬ Str.ofString "not" = Str.ofString "empty" := by decide +kernel
@[simp] theorem kd_not_one : ¬ Str.ofString "not" = Str.ofString "one" := by decide +kernel
@[simp] theorem kd_not_row : ¬ Str.ofString "not" = Str.ofString "row" := by decide +kernel
@[simp] theorem kd_not_either : ¬ Str.ofString "not" = Str.ofString "either" := by decide +kernel
@[simp] theorem kd_not_both : ¬ Str.ofString "not" = Str.ofString "both" := by decide +kernel
@[simp] theorem kd_not_times : ¬ Str.ofString "not" = Str.ofString "times" := by decide +kernel
@[simp] theorem kd_times_none : ¬ Str.ofString "times" = Str.ofString "none" := by decide +kernel
@[simp] theorem kd_times_empty : ¬ Str.ofString "times" = Str.ofString "empty" := by decide +kernel
@[simp] theorem kd_times_one : ¬ Str.ofString "times" = Str.ofString "one" := by decide +kernel
@[simp] theorem kd_times_row : ¬ Str.ofString "times" = Str.ofString "row" := by decide +kernel
@[simp] theorem kd_times_either : ¬ Str.ofString "times" = Str.ofString "either" := by decide +kernel
@[simp] theorem kd_times_both : ¬ Str.ofString "times" = Str.ofString "both" := by decide +kernel
@[simp] theorem kd_times_not : ¬ Str.ofString "times" = Str.ofString "not" := by decide +kernel
/-! relations -/
theorem tidy_rid (n : Nat) : Tidy n (rid n) := fun b e h => ⟨Nat.le_of_eq h.1, h.2⟩
theorem tidy_rno (n : Nat) : Tidy n rno := fun b e h => h.elim
theorem tidy_rup (n : Nat) : Tidy n (rup n) := fun b e h => h
theorem tidy_comp {n : Nat} {P Q : Rel} (h1 : Tidy n P) (h2 : Tidy n Q) : Tidy n (rcomp P Q) := fun b e ⟨m, x, y⟩ => ⟨Nat.le_trans (h1 _ _ x).1 (h2 _ _ y).1, (h2 _ _ y).2⟩
theorem tidy_or {n : Nat} {P Q : Rel} (h1 : Tidy n P) (h2 : Tidy n Q) : Tidy n (ror P Q) := fun b e h => h.elim (h1 b e) (h2 b e)
theorem tidy_and {n : Nat} {P Q : Rel} (h1 : Tidy n P) : Tidy n (rand P Q) := fun b e h => h1 b e h.1
theorem tidy_not {n : Nat} {P : Rel} : Tidy n (rnot n P) := fun b e h => h.1
theorem tidy_row {n : Nat} : ∀ {Ps : List Rel}, (∀ P, P ∈ Ps → Tidy n P) → Tidy n (rrow n Ps)
  | [], _ => tidy_rid n
  | P :: Ps, h => tidy_comp (h P List.mem_cons_self) (tidy_row fun Q hq => h Q (List.mem_cons_of_mem _ hq))
theorem tidy_any {n : Nat} : ∀ {Ps : List Rel}, (∀ P, P ∈ Ps → Tidy n P) → Tidy n (rany Ps)
  | [], _ => tidy_rno n
  | P :: Ps, h => tidy_or (h P List.mem_cons_self) (tidy_any fun Q hq => h Q (List.mem_cons_of_mem _ hq))
theorem tidy_all {n : Nat} : ∀ {Ps : List Rel}, (∀ P, P ∈ Ps → Tidy n P) → Tidy n (rall n Ps)
  | [], _ => tidy_rup n
  | P :: Ps, h => tidy_and (h P List.mem_cons_self)
theorem tidy_pow {n : Nat} {P Q : Rel} (h1 : Tidy n P) (h2 : Tidy n Q) : ∀ k, Tidy n (rpow P Q k)
  | 0 => h2
  | k + 1 => tidy_comp h1 (tidy_pow h1 h2 k)
theorem tidy_star {n : Nat} {P : Rel} (h : Tidy n P) : Tidy n (Rstar n P) := fun b e r => by
  induction r with
  | refl h0 => exact ⟨Nat.le_refl _, h0⟩
  | step h1 h2 h3 ih => exact ⟨by omega, ih.2⟩
theorem tidy_times {n : Nat} {P : Rel} (h : Tidy n P) (lo : Nat) (hi : Option Nat) : Tidy n (rtimes n P lo hi) := by
  cases hi with
  | none => exact tidy_pow h (tidy_star h) lo
  | some k => exact tidy_pow h (tidy_pow (tidy_or h (tidy_rid n)) (tidy_rid n) _) lo
theorem rel_ext {P Q : Rel} (h : ∀ b e, P b e ↔ Q b e) : P = Q := funext fun b => funext fun e => propext (h b e)
theorem comp_assoc (P Q R : Rel) : rcomp (rcomp P Q) R = rcomp P (rcomp Q R) := rel_ext fun b e =>
  ⟨fun ⟨m, ⟨k, h1, h2⟩, h3⟩ => ⟨k, h1, m, h2, h3⟩, fun ⟨k, h1, m, h2, h3⟩ => ⟨m, ⟨k, h1, h2⟩, h3⟩⟩
theorem id_comp {n : Nat} {P : Rel} (h : Tidy n P) : rcomp (rid n) P = P := rel_ext fun b e =>
  ⟨fun ⟨m, ⟨h1, h2⟩, h3⟩ => by rw [h1]; exact h3, fun h3 => ⟨b, ⟨rfl, by have := h _ _ h3; omega⟩, h3⟩⟩
theorem comp_id {n : Nat} {P : Rel} (h : Tidy n P) : rcomp P (rid n) = P := rel_ext fun b e =>
  ⟨fun ⟨m, h1, ⟨h2, h3⟩⟩ => by rw [← h2]; exact h1, fun h3 => ⟨e, h3, ⟨rfl, (h _ _ h3).2⟩⟩⟩
/-- a row folded from the left -/
theorem foldl_comp {n : Nat} : ∀ (Ps : List Rel) (P : Rel), Tidy n P → (∀ Q, Q ∈ Ps → Tidy n Q) → Ps.foldl rcomp P = rcomp P (rrow n Ps)
  | [], P, h, _ => (comp_id h).symm
  | Q :: Ps, P, h, hq => by
    rw [List.foldl_cons, foldl_comp Ps _ (tidy_comp h (hq Q List.mem_cons_self)) fun R hr => hq R (List.mem_cons_of_mem _ hr), comp_assoc]
    rfl
theorem row_rep {n : Nat} (P Q : Rel) (hq : Tidy n Q) : ∀ k, rcomp (rrow n (List.replicate k P)) Q = rpow P Q k
  | 0 => id_comp hq
  | k + 1 => by
    show rcomp (rcomp P _) Q = rcomp P _
    rw [comp_assoc, row_rep P Q hq k]
/-- all of a rule's words lie tidy -/
theorem tidy_leaf {x : PyData} {D : Den} (h : Leaf x D) (w : Str) : Tidy w.length (D w) := by
  cases h with
  | no => exact tidy_rno _
  | em => exact tidy_rid _
  | one h1 h2 h3 =>
    rintro b e ⟨rfl, c, h4, _⟩
    have := (List.getElem?_eq_some_iff.mp h4).1
    refine ⟨by omega, ?_⟩
    rw [Array.length_toList] at this
    exact this
theorem all2_mem {α β : Type} {R : α → β → Prop} {xs : List α} {ys : List β} (h : All2 R xs ys) : ∀ y, y ∈ ys → ∃ x, x ∈ xs ∧ R x y := by
  induction h with
  | nil => intro y hy; cases hy
  | cons a b ih =>
    intro y hy
    rcases List.mem_cons.mp hy with rfl | hy
    · exact ⟨_, List.mem_cons_self, a⟩
    · obtain ⟨x, hx, r⟩ := ih y hy
      exact ⟨x, List.mem_cons_of_mem _ hx, r⟩
theorem all2_len {α β : Type} {R : α → β → Prop} {xs : List α} {ys : List β} (h : All2 R xs ys) : xs.length = ys.length := by
  induction h with
  | nil => rfl
  | cons a b ih => rw [List.length_cons, List.length_cons, ih]
theorem tidy_rul : ∀ (d : Nat) {x : PyData} {D : Den}, Rul d x D → ∀ w : Str, Tidy w.length (D w)
  | 0, x, D, h, w => tidy_leaf h w
  | d + 1, x, D, h, w => by
    have step : ∀ {xs : List PyData} {Ds : List Den}, All2 (Rul d) xs Ds → ∀ P, P ∈ Ds.map (· w) → Tidy w.length P := fun h P hP => by
      obtain ⟨E, hE, rfl⟩ := List.mem_map.mp hP
      obtain ⟨x, _, hx⟩ := all2_mem h E hE
      exact tidy_rul d hx w
    cases h with
    | leaf h => exact tidy_leaf h w
    | row h1 h2 h3 => exact tidy_row (step h3)
    | ei h1 h2 h3 => exact tidy_any (step h3)
    | bo h1 h2 h3 => exact tidy_all (step h3)
    | no h => exact tidy_not
    | ti h h1 h2 => exact tidy_times (tidy_rul d h w) _ _
end DL
/-! DL: tables of one's own: lists of lists that are changed in place. -/
namespace DL
open PySem PySem.Spec PyProof.Rows L2
section
variable {K : PySem.W.Frag} {G G2 G3 F F' H H' : Hp} {P : Option Addr} {σ : L2.St} {s : S}
inductive RowsG (K : PySem.W.Frag) (G G2 F : Hp) : List Addr → List (List PyData) → Prop
  | nil : RowsG K G G2 F [] []
  | cons {q : Addr} {vs : List V} {xs : List PyData} {qs : List Addr} {xss : List (List PyData)} : G2 q = some (.lst vs) → G q = none → DqA K F vs xs → q ∉ qs → RowsG K G G2 F qs xss → RowsG K G G2 F (q :: qs) (xs :: xss)
theorem RowsG.up (e : Same G2 G3) (f : Same F F') : ∀ {qs : List Addr} {xss : List (List PyData)}, RowsG K G G2 F qs xss → RowsG K G G3 F' qs xss
  | [], _, h => by cases h; exact .nil
  | q :: qs, _, h => by
    cases h with
    | cons h1 h2 h3 h4 h5 => exact .cons (e _ _ h1) h2 (h3.mono f) h4 (RowsG.up e f h5)
theorem RowsG.has : ∀ {qs : List Addr} {xss : List (List PyData)}, RowsG K G G2 F qs xss → ∀ r, r ∈ qs → ∃ o, G2 r = some o
  | [], _, h, r, hr => by cases hr
  | q :: qs, _, h, r, hr => by
    cases h with
    | cons h1 h2 h3 h4 h5 =>
      rcases List.mem_cons.mp hr with rfl | hr
      · exact ⟨_, h1⟩
      · exact RowsG.has h5 r hr
theorem RowsG.snoc {p : Addr} {us : List V} {ys : List PyData} (hp : G2 p = some (.lst us)) (gp : G p = none) (d : DqA K F us ys) : ∀ {qs : List Addr} {xss : List (List PyData)}, RowsG K G G2 F qs xss → p ∉ qs → RowsG K G G2 F (qs ++ [p]) (xss ++ [ys])
  | [], _, h, n => by
    cases h
    exact .cons hp gp d (by intro z; cases z) .nil
  | q :: qs, _, h, n => by
    cases h with
    | cons h1 h2 h3 h4 h5 =>
      refine .cons h1 h2 h3 (fun z => ?_) (RowsG.snoc hp gp d h5 fun z => n (List.mem_cons_of_mem _ z))
      rcases List.mem_append.mp z with z | z
      · exact h4 z
      · rw [List.mem_singleton.mp z] at n
        exact n List.mem_cons_self
theorem RowsG.nodup : ∀ {qs : List Addr} {xss : List (List PyData)}, RowsG K G G2 F qs xss → qs.Nodup
  | [], _, h => List.nodup_nil
  | q :: qs, _, h => by
    cases h with
    | cons h1 h2 h3 h4 h5 => exact List.nodup_cons.mpr ⟨h4, RowsG.nodup h5⟩
theorem RowsG.ok (R : Rep K G2 P F H σ s) : ∀ {qs : List Addr} {xss : List (List PyData)}, RowsG K G G2 F qs xss → RowsOk K G P F H qs xss
  | [], _, h => by cases h; exact .nil
  | q :: qs, _, h => by
    cases h with
    | cons h1 h2 h3 h4 h5 =>
      refine .cons (R.apart _ _ h1) h2 (fun z => ?_) (R.keep.go h1) h3 (RowsG.ok R h5)
      rw [(R.pool q z).2.1] at h1
      cases h1
theorem Rep.weakG {F0 H0 : Hp} (R : Rep K G2 P F H σ s) (e : Same G G2) (t : TabsAt K G ∧ Tk F0 H0) : Rep K G P F H σ s where
  same := R.same
  keep := (SameT.of e).trans R.keep
  apart := fun b o g => R.apart b o (e b o g)
  sl := fun i x hx => by
    have q := R.sl i x hx
    cases x with
    | un => exact True.intro
    | d x => exact q
    | o xs =>
      obtain ⟨p, vs, h1, h2, h3, h4, h5, h6⟩ := q
      exact ⟨p, vs, h1, h2, e.free h3, h4, h5, h6⟩
    | pl => exact q
    | sc ns => exact q
    | tb p qs xss => exact q.tbUp rfl (Same.refl F) fun r o hr g1 g2 g3 g4 => ⟨g1, e.free g2, g3, g4⟩
  sep := R.sep
  pool := fun a ha => by
    obtain ⟨h1, h2, h3⟩ := R.pool a ha
    exact ⟨h1, e.free h2, h3⟩
  len := R.len
  tbs := R.tbs
  tab := ⟨t.1, R.tab.2⟩
theorem Rep.addG {p : Addr} {o : HO} (R : Rep K G P F H σ s) (h : H p = some o) (fp : F p = none) (np : P ≠ some p) (hsl : ∀ (i : Nat) (xs : List PyData), s.e[i]? = some (.o xs) → σ[i]? ≠ some (some (.ref p))) (htb : ∀ (i : Nat) (x : Sl), s.e[i]? = some x → p ∉ tads x) :
    Rep K (upd G p o) P F H σ s where
  same := R.same
  keep := R.keep.updG h
  apart := fun b u q => by
    by_cases hb : b = p
    · rw [hb]
      exact fp
    · rw [upd_ne hb] at q
      exact R.apart b u q
  sl := fun i x hx => by
    have q := R.sl i x hx
    cases x with
    | un => exact True.intro
    | d x => exact q
    | o xs =>
      obtain ⟨p', vs, h1, h2, h3, h4, h5, h6⟩ := q
      exact ⟨p', vs, h1, h2, by rw [upd_ne (fun z => hsl i xs hx (by rw [← z]; exact h1))]; exact h3, h4, h5, h6⟩
    | pl => exact q
    | sc ns => exact q
    | tb p' qs xss => exact q.tbUp rfl (Same.refl F) fun r o hr g1 g2 g3 g4 => ⟨g1, by rw [upd_ne (fun z => htb i _ hx (by rw [← z]; exact hr))]; exact g2, g3, g4⟩
  sep := R.sep
  pool := fun a ha => by
    obtain ⟨h1, h2, h3⟩ := R.pool a ha
    exact ⟨h1, by rw [upd_ne (fun z => np (by rw [← z]; exact ha))]; exact h2, h3⟩
  len := R.len
  tbs := R.tbs
  tab := ⟨⟨fun b hb => by
    have q := R.tab.1.1 b hb
    by_cases e : b = p
    · have q2 := R.keep.go q
      rw [e] at q2 ⊢
      rw [upd_same, ← h, q2]
    · rw [upd_ne e]
      exact q, fun b hb => by
    by_cases e : b = p
    · obtain ⟨ps, q2⟩ := R.tab.1.tblAt R.keep hb
      rw [e] at q2 ⊢
      exact ⟨ps, by rw [upd_same, ← h, q2]⟩
    · obtain ⟨ps, q⟩ := R.tab.1.2 b hb
      exact ⟨ps, by rw [upd_ne e]; exact q⟩⟩, R.tab.2⟩
/-- a new table stored -/
theorem Rep.setT {i : Nat} {p : Addr} {qs : List Addr} {xss : List (List PyData)} (R : Rep K G P F H σ s) (n : ∀ r, r ∈ p :: qs → Nu G P F σ s r) (h : H p = some (.lst (qs.map V.ref))) (nd : (p :: qs).Nodup) (d : RowsOk K G P F H qs xss) :
    Rep K G P F H (σ.set i (some (.ref p))) (s.put i (.tb p qs xss)) := by
  refine ⟨R.same, R.keep, R.apart, fun j y hy => ?_, fun j k ys zs r hj hk e1 e2 => ?_, R.pool, put_len R.len, fun j k y z r hj hk hr jk oc => ?_, R.tab⟩
  · have hy0 := hy
    rcases set_get hy with ⟨rfl, rfl⟩ | ⟨ne, hy⟩
    · have n0 := n p List.mem_cons_self
      exact ⟨set_self (by rw [R.len]; exact put_lt hy0), n0.f, n0.g, n0.np, h, nd, d⟩
    · have q := R.sl j y hy
      cases y with
      | un => exact True.intro
      | d y =>
        obtain ⟨u, a, b⟩ := q
        exact ⟨u, by rw [List.getElem?_set_ne (Ne.symm ne)]; exact a, b⟩
      | o ys =>
        obtain ⟨p', vs', g1, g2⟩ := q
        exact ⟨p', vs', by rw [List.getElem?_set_ne (Ne.symm ne)]; exact g1, g2⟩
      | pl =>
        obtain ⟨a, h1, h2⟩ := q
        exact ⟨a, h1, by rw [List.getElem?_set_ne (Ne.symm ne)]; exact h2⟩
      | sc ns =>
        obtain ⟨a, h1, h2⟩ := q
        exact ⟨a, by rw [List.getElem?_set_ne (Ne.symm ne)]; exact h1, h2⟩
      | tb p' qs' xss' => exact q.tbUp (List.getElem?_set_ne (Ne.symm ne)) (Same.refl F) fun r o hr g1 g2 g3 g4 => ⟨g1, g2, g3, g4⟩
  · rcases set_get hj with ⟨_, z⟩ | ⟨nj, hj⟩
    · cases z
    · rcases set_get hk with ⟨_, z⟩ | ⟨nk, hk⟩
      · cases z
      · rw [List.getElem?_set_ne (Ne.symm nj)] at e1
        rw [List.getElem?_set_ne (Ne.symm nk)] at e2
        exact R.sep j k ys zs r hj hk e1 e2
  · have occ_off : ∀ {m : Nat} {w : Sl}, m ≠ i → Occ (σ.set i (some (.ref p))) m w r → Occ σ m w r := fun nm q => by
      rcases q with q | ⟨q, q2⟩
      · exact .inl q
      · rw [List.getElem?_set_ne (Ne.symm nm)] at q2
        exact .inr ⟨q, q2⟩
    have none_occ : ∀ {m : Nat} {w : Sl}, s.e[m]? = some w → r ∈ p :: qs → ¬ Occ σ m w r := fun hm hr q => by
      rcases q with q | ⟨⟨ws, rfl⟩, q2⟩
      · exact (n r hr).tb _ _ hm q
      · exact (n r hr).sl _ _ hm q2
    rcases set_get hj with ⟨e1, e2⟩ | ⟨nj, hj⟩
    · rw [e2] at hr
      rcases set_get hk with ⟨e3, e4⟩ | ⟨nk, hk⟩
      · exact jk (e1.trans e3.symm)
      · exact none_occ hk hr (occ_off nk oc)
    · rcases set_get hk with ⟨e3, e4⟩ | ⟨nk, hk⟩
      · rcases oc with q | ⟨⟨_, q⟩, _⟩
        · rw [e4] at q
          exact (n r q).tb j y hj hr
        · rw [e4] at q
          cases q
      · exact R.tbs j k y z r hj hk hr jk (occ_off nk oc)
/-- a comprehension that makes lists -/
theorem lcT_of {vs is : List Nat} {wi : DI} {wg : DG} {wt : DT} {wl : DA} (hsub : ∀ i ∈ is, i ∈ vs) (σ : L2.St) (H : Hp) (Q : VK) (h : ∃ G P F s Φ, Rep K G P F H σ s ∧ wLc vs wi wg wt (wFz wl) s Φ ∧
      ∀ p qs xss F' H' s', Rep K G P F' H' σ s' → Same F F' → (∀ r, r ∈ p :: qs → Nu G P F' σ s' r) → H' p = some (.lst (qs.map V.ref)) → (p :: qs).Nodup → RowsOk K G P F' H' qs xss → Φ (xss.map .list) s' → Q (.ref p) H') :
    tLc (tI K wi) (tG K is wg) (tT K wt) (tL K wl) vs σ H Q := by
  obtain ⟨G, P, F, s, Φ, R, h, k⟩ := h
  refine ⟨G, P, F, s, _, R, h, fun J F1 H1 s1 xs R1 e1 Y q D hD => ?_⟩
  obtain ⟨hno, q⟩ := q
  obtain ⟨R1', n1⟩ := nu_new (o := .lst []) R1 hD
  refine ⟨fun i m H2 => m = xs.length - i ∧ i ≤ xs.length ∧ ∃ F2 G2 qs xss q2, Same F1 F2 ∧ Same G G2 ∧ H2 D = some (.lst (qs.map V.ref)) ∧ RowsG K G G2 F2 qs xss ∧ Rep K G2 P F2 H2 σ ⟨s1.e, q2⟩ ∧ Nu G2 P F2 σ ⟨s1.e, q2⟩ D ∧ qs.length = xss.length ∧
    lcW vs s1.e wg wt (wFz wl) (fun ys q => Φ ys ⟨s1.e, q⟩) (xs.drop i) (xss.map .list) q2, ⟨_, rfl, Nat.zero_le _, F1, G, [], [], s1.q, Same.refl F1, Same.refl G, upd_same, .nil, R1', n1, rfl, by simpa using q⟩, ?_⟩
  rintro i m H2 ⟨rfl, hi, F2, G2, qs, xss, q2, e2, eG, hD2, rows, R2, n2, hlen, w2⟩
  by_cases hl : i < xs.length
  · obtain ⟨go, yl⟩ := (Y F2 H2 e2 R2.same i).1 xs[i] (List.getElem?_eq_getElem hl)
    rw [List.drop_eq_getElem_cons hl] at w2
    refine .inr ⟨go, fun H3 => ∃ F2 G2 qs xss q2, Same F1 F2 ∧ Same G G2 ∧ H3 D = some (.lst (qs.map V.ref)) ∧ RowsG K G G2 F2 qs xss ∧ Rep K G2 P F2 H3 σ ⟨s1.e, q2⟩ ∧ Nu G2 P F2 σ ⟨s1.e, q2⟩ D ∧ qs.length = xss.length ∧
      lcW vs s1.e wg wt (wFz wl) (fun ys q => Φ ys ⟨s1.e, q⟩) (xs.drop (i + 1)) (xss.map .list) q2, fun H3 z => ⟨xs.length - (i + 1), by omega, rfl, hl, z⟩, fun v H3 hy => ?_⟩
    obtain ⟨F3, f, dx⟩ := yl v H3 hy
    have RB : Rep K (upd G2 D (.lst (qs.map V.ref))) P F3 H3 (wipe σ vs) ⟨wipeE s1.e vs, q2⟩ := (R2.block (vs := vs) n2 hD2).fresh f
    refine ⟨_, P, F3, _, xs[i], _, RB, dx, w2, fun σ4 s4 R4 ag l4 q4 => ?_⟩
    obtain ⟨we4, q4⟩ := q4
    have ag' : ∀ i, i ∉ vs → σ4[i]? = σ[i]? := fun j hj => by
      rw [ag j (fun z => hj (hsub j z)), wipe_off hj]
    refine ⟨wipe_same (by rw [l4, wipe_length]) ag', ?_⟩
    refine ⟨_, P, F3, s4, _, R4, q4, fun b F5 H5 s5 R5 e5 q5 => ?_⟩
    obtain ⟨es5, q5⟩ := q5
    have e25 : Same F2 F5 := f.ff.trans e5
    cases b with
    | true =>
      rw [if_pos rfl] at q5 ⊢
      refine ⟨_, P, F5, s5, _, R5, q5, fun p us F6 H6 s6 ds R6 e6 n6 hp6 d6 q6 => ?_⟩
      obtain ⟨es6, hz, q6⟩ := q6
      have we6 : wipeE s6.e vs = wipeE s1.e vs := by rw [es6]; exact we4
      obtain ⟨R7, n7, hD7⟩ := R2.unblock (vs := vs) (acc' := qs.map V.ref ++ [.ref p]) n2 hno (e25.trans e6) R6 we6 ag'
      have pD : p ≠ D := fun z => by
        have g := n6.g
        rw [z, upd_same] at g
        cases g
      have gp : G2 p = none := by
        have g := n6.g
        rw [upd_ne pD] at g
        exact g
      have hsl : ∀ (j : Nat) (x : Sl), s1.e[j]? = some x → ((∃ ys, x = .o ys) → σ[j]? ≠ some (some (.ref p))) ∧ p ∉ tads x := fun j x hx => by
        by_cases hj : j ∈ vs
        · refine ⟨fun ⟨ys, z⟩ => (by rw [z] at hx; exact (noOwn_at hno hj hx).elim), fun z => ?_⟩
          cases x with
          | tb a b c => exact noOwn_tb hno hj hx
          | _ => cases z
        · have h6 : s6.e[j]? = some x := by rw [← wipeE_out hj, we6, wipeE_out hj]; exact hx
          refine ⟨fun ⟨ys, z⟩ => ?_, n6.tb j x h6⟩
          rw [z] at h6
          rw [← ag' j hj]
          exact n6.sl j ys h6
      have R8 : Rep K (upd G2 p (.lst us)) P F6 (upd H6 D (.lst (qs.map V.ref ++ [.ref p]))) σ ⟨s1.e, s6.q⟩ := R7.addG (by rw [upd_ne pD]; exact hp6) n6.f n6.np (fun j ys hj => (hsl j _ hj).1 ⟨ys, rfl⟩) (fun j x hx => (hsl j x hx).2)
      have eG2 : Same G2 (upd G2 p (.lst us)) := same_new gp
      have np : p ∉ qs := fun z => by
        obtain ⟨o, ho⟩ := rows.has p z
        rw [gp] at ho
        cases ho
      refine ⟨_, hD7, by rw [List.length_map, hlen]; rw [List.length_map] at hz; exact hz, F6, upd G2 p (.lst us), qs ++ [p], xss ++ [ds], s6.q, e2.trans (e25.trans e6), eG.trans eG2, by rw [upd_same, List.map_append]; rfl, ?_, R8, ⟨n7.f, by rw [upd_ne (Ne.symm pD)]; exact n7.g, n7.np, n7.sl, n7.tb⟩, by simp [hlen], ?_⟩
      · exact (rows.up eG2 (e25.trans e6)).snoc upd_same (eG.free gp) d6 np
      · rw [List.map_append]
        exact q6
    | false =>
      rw [if_neg Bool.false_ne_true] at q5 ⊢
      obtain ⟨R7, n7, hD7⟩ := R2.unblock (vs := vs) (acc' := qs.map V.ref) n2 hno e25 R5 (by rw [es5]; exact we4) ag'
      have eu : upd H5 D (.lst (qs.map V.ref)) = H5 := by
        funext b
        by_cases hb : b = D
        · rw [hb, upd_same, hD7]
        · rw [upd_ne hb]
      rw [eu] at R7
      exact ⟨F5, G2, qs, xss, s5.q, e2.trans e25, eG, hD7, rows.up (Same.refl G2) e25, R7, n7, hlen, q5⟩
  · refine .inl ⟨(Y F2 H2 e2 R2.same i).2 (by omega), ?_⟩
    rw [List.drop_eq_nil_of_le (by omega)] at w2
    have R3 := R2.weakG eG R.tab
    have dq : D ∉ qs := fun z => by
      obtain ⟨o, ho⟩ := rows.has D z
      rw [n2.g] at ho
      cases ho
    refine k D qs xss F2 H2 ⟨s1.e, q2⟩ R3 (e1.trans e2) (fun r hr => ?_) hD2 (List.nodup_cons.mpr ⟨dq, rows.nodup⟩) (rows.ok R2) w2
    rcases List.mem_cons.mp hr with rfl | hr
    · exact ⟨n2.f, eG.free n2.g, n2.np, n2.sl, n2.tb⟩
    · obtain ⟨o, ho⟩ := rows.has r hr
      obtain ⟨a1, a2, a3, _⟩ := (rows.ok R2).at' r hr
      refine ⟨a1, a2, a3, fun j ys hj z => ?_, fun j x hx z => ?_⟩
      · obtain ⟨p', vs', g1, g2, g3, _⟩ := R2.sl j _ hj
        rw [z] at g1
        cases g1
        rw [ho] at g3
        cases g3
      · have g := (tad_at (R2.sl j x hx) z).2.1
        rw [ho] at g
        cases g
end

section
variable {K : PySem.W.Frag} {G F H : Hp} {P : Option Addr} {σ : L2.St} {s : S}
@[simp] def wSetT (i : Nat) (w : DA) : DS := fun Φ s => w s fun ys s1 => ∃ yss : List (List PyData), ys = yss.map .list ∧ ∀ p qs, Φ.nx (s1.put i (.tb p qs yss))
theorem map_list_inj : ∀ {a b : List (List PyData)}, a.map PyData.list = b.map PyData.list → a = b
  | [], [], _ => rfl
  | _ :: _, _ :: _, h => by
    rw [List.map_cons, List.map_cons] at h
    injection h with h1 h2
    injection h1 with h1
    rw [h1, map_list_inj h2]
  | [], _ :: _, h => by cases h
  | _ :: _, [], h => by cases h
@[simp] def tbAt (s : S) (i : Nat) (k : Addr → List Addr → List (List PyData) → Prop) : Prop := match s.e[i]? with
  | some (.tb p qs xss) => k p qs xss
  | _ => False
theorem tbAt_of {s : S} {i : Nat} {k : Addr → List Addr → List (List PyData) → Prop} (h : tbAt s i k) : ∃ p qs xss, s.e[i]? = some (.tb p qs xss) ∧ k p qs xss := by
  unfold tbAt at h
  cases hs : s.e[i]? with
  | none =>
    rw [hs] at h
    exact h.elim
  | some z =>
    rw [hs] at h
    cases z with
    | tb p qs xss => exact ⟨p, qs, xss, rfl, h⟩
    | _ => exact h.elim
theorem RowsOk.len : ∀ {qs : List Addr} {xss : List (List PyData)}, RowsOk K G P F H qs xss → qs.length = xss.length
  | [], _, h => by cases h; rfl
  | q :: qs, _, h => by
    cases h with
    | cons h1 h2 h3 h4 h5 h6 => rw [List.length_cons, List.length_cons, RowsOk.len h6]
theorem RowsOk.get : ∀ {qs : List Addr} {xss : List (List PyData)} {j : Nat} {xs : List PyData}, RowsOk K G P F H qs xss → xss[j]? = some xs → ∃ q vs, qs[j]? = some q ∧ H q = some (.lst vs) ∧ DqA K F vs xs
  | [], _, j, xs, h, e => by
    cases h
    simp at e
  | q :: qs, _, 0, xs, h, e => by
    cases h with
    | cons h1 h2 h3 h4 h5 h6 =>
      simp at e
      subst e
      exact ⟨q, _, rfl, h4, h5⟩
  | q :: qs, _, j + 1, xs, h, e => by
    cases h with
    | cons h1 h2 h3 h4 h5 h6 =>
      obtain ⟨q', vs, a, b, c⟩ := RowsOk.get (j := j) h6 (by simpa using e)
      exact ⟨q', vs, by simpa using a, b, c⟩
theorem RowsOk.set {ws : List V} {ys : List PyData} {r : Addr} (d : DqA K F ws ys) : ∀ {qs : List Addr} {xss : List (List PyData)} {j : Nat}, RowsOk K G P F H qs xss → qs.Nodup → qs[j]? = some r → RowsOk K G P F (upd H r (.lst ws)) qs (xss.set j ys)
  | [], _, j, h, nd, e => by simp at e
  | q :: qs, _, 0, h, nd, e => by
    cases h with
    | cons h1 h2 h3 h4 h5 h6 =>
      simp at e
      subst e
      refine .cons h1 h2 h3 upd_same d (h6.up (Same.refl F) fun r o hr g1 g2 g3 g4 => ⟨g1, g2, g3, ?_⟩)
      rw [upd_ne (fun z => (List.nodup_cons.mp nd).1 (by rw [← z]; exact hr))]
      exact g4
  | q :: qs, _, j + 1, h, nd, e => by
    cases h with
    | cons h1 h2 h3 h4 h5 h6 =>
      have e' : qs[j]? = some r := by simpa using e
      refine .cons h1 h2 h3 ?_ h5 (RowsOk.set d h6 (List.nodup_cons.mp nd).2 e')
      rw [upd_ne (fun z => (List.nodup_cons.mp nd).1 (by rw [z]; exact List.mem_of_getElem? e'))]
      exact h4
/-- a row of a table changed -/
theorem Rep.wrT {i j : Nat} {p r : Addr} {qs : List Addr} {xss : List (List PyData)} {ws : List V} {ys : List PyData} (R : Rep K G P F H σ s) (h : s.e[i]? = some (.tb p qs xss)) (e : qs[j]? = some r) (d : DqA K F ws ys) :
    Rep K G P F (upd H r (.lst ws)) σ (s.put i (.tb p qs (xss.set j ys))) := by
  obtain ⟨h1, h2, h3, h4, h5, h6, h7⟩ := R.sl i _ h
  have rq : r ∈ qs := List.mem_of_getElem? e
  have rm : r ∈ tads (.tb p qs xss) := List.mem_cons_of_mem _ rq
  obtain ⟨f1, f2, f3, o0, f4⟩ := h7.at' r rq
  have pr : p ≠ r := fun z => (List.nodup_cons.mp h6).1 (by rw [z]; exact rq)
  refine ⟨fun b o q => ?_, R.keep.upd f2, R.apart, fun k y hy => ?_, fun k l us zs r' hj hk e1 e2 => ?_, fun a ha => ?_, by rw [R.len]; exact (List.length_set).symm, fun k l y z r' hj hk hr jk oc => ?_, ⟨R.tab.1, R.tab.2.updH⟩⟩
  · rw [upd_ne (fun z => by rw [z, f1] at q; cases q)]
    exact R.same b o q
  · rcases set_get hy with ⟨rfl, rfl⟩ | ⟨ne, hy⟩
    · exact ⟨h1, h2, h3, h4, by rw [upd_ne pr]; exact h5, h6, h7.set d (List.nodup_cons.mp h6).2 e⟩
    · have q := R.sl k y hy
      cases y with
      | un => exact True.intro
      | d y => exact q
      | o us =>
        obtain ⟨p', vs', g1, g2, g3, g4, g5, g6⟩ := q
        have np : p' ≠ r := fun z => R.tbs i k _ _ r h hy rm (Ne.symm ne) (occ_o rfl (by rw [← z]; exact g1))
        exact ⟨p', vs', g1, g2, g3, g4, by rw [upd_ne np]; exact g5, g6⟩
      | pl => exact q
      | sc ns => exact q
      | tb p' qs' xss' => exact SlOk.tbUp (F := F) (F' := F) q rfl (Same.refl F) fun u o hr g1 g2 g3 g4 => ⟨g1, g2, g3, by rw [upd_ne (fun z => R.tbs i k _ _ r h hy rm (Ne.symm ne) (.inl (by rw [← z]; exact hr)))]; exact g4⟩
  · rcases set_get hj with ⟨_, z⟩ | ⟨nj, hj⟩
    · cases z
    · rcases set_get hk with ⟨_, z⟩ | ⟨nk, hk⟩
      · cases z
      · exact R.sep k l us zs r' hj hk e1 e2
  · obtain ⟨g1, g2, g3⟩ := R.pool a ha
    exact ⟨g1, g2, by rw [upd_ne (fun z => f3 (by rw [← z]; exact ha))]; exact g3⟩
  · rcases set_get hj with ⟨e1, e2⟩ | ⟨nj, hj⟩
    · rcases set_get hk with ⟨e3, e4⟩ | ⟨nk, hk⟩
      · exact jk (e1.trans e3.symm)
      · rw [e2] at hr
        exact R.tbs i l _ z r' h hk hr (by rw [← e1]; exact jk) oc
    · rcases set_get hk with ⟨e3, e4⟩ | ⟨nk, hk⟩
      · rcases oc with q | ⟨⟨_, q⟩, _⟩
        · rw [e4] at q
          exact R.tbs k i y _ r' hj h hr (by rw [← e3]; exact jk) (.inl q)
        · rw [e4] at q
          cases q
      · exact R.tbs k l y z r' hj hk hr jk oc
end
section
variable {X : Cx} {pos : Pos}
theorem xs_setTb {i : Nat} {y : Str} {py : Pos} {elt tg iter : Expr} {ifs : List Expr} {scope : Scope} {own : List (Str × Nat)} {spos : Pos} {is : List Nat} {wi : DI} {wg : DG} {wt : DT} {wl : DA} (hc : X.calm = true) (hN : X.N.Nodup) (hy : X.N[i]? = some y) (hyl : X.env.scope.names.lookup y = some .local)
    (hsw : swapsWith (.ListComp elt [⟨tg, iter, ifs, 0⟩] scope pos) (some (.Name y py)) spos.line X.env = pure true) (hi : XI X tg iter wi) (ok : BlkOk X.N X.env.scope scope own) (hsub : ∀ i ∈ is, i ∈ own.map (·.2))
    (hg : ∀ (s : Shared) (H : Hp) (C : Addr) (cl : List (Str × Addr)) (fp : List Addr), XG (X.blk s H scope (compEnvC scope cl C X.env) fp) tg is wg) (ht : ∀ (s : Shared) (H : Hp) (C : Addr) (cl : List (Str × Addr)) (fp : List Addr), XTs (X.blk s H scope (compEnvC scope cl C X.env) fp) ifs wt)
    (he : ∀ (s : Shared) (H : Hp) (C : Addr) (cl : List (Str × Addr)) (fp : List Addr), XL (X.blk s H scope (compEnvC scope cl C X.env) fp) elt wl) (hs : ∀ x, foldedSetIterable iter X.env x = pure x := by intro _; rfl) :
    XS X (.Assign [.Name y py] (.ListComp elt [⟨tg, iter, ifs, 0⟩] scope pos) spos) (wSetT i (wLc (own.map (·.2)) wi wg wt (wFz wl))) := ps_imp (ps_setLc hc hN hy hyl hsw hi ok hg ht he hs) fun D σ H h => by
  obtain ⟨G, P, F, s, Φ, R, h, b⟩ := h
  exact lcT_of hsub σ H _ ⟨G, P, F, s, _, R, h, fun p qs xss F' H' s' R' e n hp nd d q => by
    obtain ⟨yss, e1, q⟩ := q
    have e2 := map_list_inj e1
    subst e2
    exact b.nx _ F' H' _ (R'.setT n hp nd d) e (q p qs)⟩
/-- .. of a name that a block holds -/
theorem xs_setTbC {i : Nat} {y : Str} {py : Pos} {elt tg iter : Expr} {ifs : List Expr} {scope : Scope} {own : List (Str × Nat)} {spos : Pos} {is : List Nat} {wi : DI} {wg : DG} {wt : DT} {wl : DA} (hc : X.calm = true) (hN : X.N.Nodup) (hy : X.N[i]? = some y) (hx : Loc X.env.scope y)
    (hi : XI X tg iter wi) (ok : BlkOk X.N X.env.scope scope own) (hsub : ∀ i ∈ is, i ∈ own.map (·.2))
    (hg : ∀ (s : Shared) (H : Hp) (C : Addr) (cl : List (Str × Addr)) (fp : List Addr), XG (X.blk s H scope (compEnvC scope cl C X.env) fp) tg is wg) (ht : ∀ (s : Shared) (H : Hp) (C : Addr) (cl : List (Str × Addr)) (fp : List Addr), XTs (X.blk s H scope (compEnvC scope cl C X.env) fp) ifs wt)
    (he : ∀ (s : Shared) (H : Hp) (C : Addr) (cl : List (Str × Addr)) (fp : List Addr), XL (X.blk s H scope (compEnvC scope cl C X.env) fp) elt wl) (hs : ∀ x, foldedSetIterable iter X.env x = pure x := by intro _; rfl)
    (hsw : swapsWith (.ListComp elt [⟨tg, iter, ifs, 0⟩] scope pos) (some (.Name y py)) spos.line X.env = pure false := by rfl)
    (hf : X.fn y = true ∨ X.env.scope.names.lookup y = some .local := by first | exact .inl rfl | exact .inr rfl | assumption) :
    XS X (.Assign [.Name y py] (.ListComp elt [⟨tg, iter, ifs, 0⟩] scope pos) spos) (wSetT i (wLc (own.map (·.2)) wi wg wt (wFz wl))) := ps_imp (ps_set hN hy hx (pe_lc hc hN hi ok hg ht he hs) hsw hf) fun D σ H h => by
  obtain ⟨G, P, F, s, Φ, R, h, b⟩ := h
  exact lcT_of hsub σ H _ ⟨G, P, F, s, _, R, h, fun p qs xss F' H' s' R' e n hp nd d q => by
    obtain ⟨yss, e1, q⟩ := q
    have e2 := map_list_inj e1
    subst e2
    exact b.nx _ F' H' _ (R'.setT n hp nd d) e (q p qs)⟩
@[simp] def wTbLen (i : Nat) : DE := fun s Φ => tbAt s i fun _ _ xss => Φ (.int xss.length) s
theorem xe_tbLen {i : Nat} {x : Str} {xp p1 : Pos} (hg : Gl X "len") (hm : X.mg "len" = none) (hv : PE X (.Name x xp) (tVar i)) (he : starEach [.Name x xp] X.env = (false, eval (.Name x xp) X.env) :: starEach [] X.env := by rfl)
    (hpl : (backTo pos (starEach [] X.env)).any (·.1) = false := by rfl) : XE X (.Call (.Name "len" p1) [.Name x xp] [] pos) (wTbLen i) :=
  pe_imp (pe_callB call_len_seq hg hm (by decide +kernel) (pa_cons hv pa_nil he) (by decide) (by decide) he hpl) fun σ H Q h => by
    obtain ⟨G, P, F, s, Φ, R, h, kk⟩ := h
    obtain ⟨p, qs, xss, h0, h⟩ := tbAt_of h
    obtain ⟨h1, h2, h3, h4, h5, h6, h7⟩ := R.sl i _ h0
    refine ⟨_, h1, p, _, rfl, .inl (SqL.of h5), ?_⟩
    rw [List.length_map, h7.len]
    exact kk _ F H s _ R (Same.refl F) (.int _) h
/-- the row of a table -/
@[simp] def tbRow (s : S) (i : Nat) (k : PyData) (f : Addr → List Addr → List (List PyData) → Nat → List PyData → Prop) : Prop := tbAt s i fun p qs xss => match k with
  | .int k => optP (ixN xss.length k) fun j => optP xss[j]? fun xs => f p qs xss j xs
  | _ => False
theorem tbRow_of {K : PySem.W.Frag} {G F H : Hp} {P : Option Addr} {σ : L2.St} {s : S} {i : Nat} {k : PyData} {f : Addr → List Addr → List (List PyData) → Nat → List PyData → Prop} (R : Rep K G P F H σ s) (h : tbRow s i k f) : ∃ p qs xss k' j xs r vs, s.e[i]? = some (.tb p qs xss) ∧ k = .int k' ∧
    σ[i]? = some (some (.ref p)) ∧ H p = some (.lst (qs.map V.ref)) ∧ atI (qs.map V.ref) k' = some (.ref r) ∧ qs[j]? = some r ∧ xss[j]? = some xs ∧ H r = some (.lst vs) ∧ DqA K F vs xs ∧ f p qs xss j xs := by
  obtain ⟨p, qs, xss, h0, h⟩ := tbAt_of h
  obtain ⟨h1, h2, h3, h4, h5, h6, h7⟩ := R.sl i _ h0
  cases k with
  | int k =>
    obtain ⟨j, e1, h⟩ := optP_of h
    obtain ⟨xs, e2, h⟩ := optP_of h
    obtain ⟨r, vs, a, b, c⟩ := h7.get e2
    refine ⟨p, qs, xss, k, j, xs, r, vs, h0, rfl, h1, h5, ?_, a, e2, b, c, h⟩
    unfold atI
    rw [List.length_map, h7.len, e1]
    show (qs.map V.ref)[j]? = _
    rw [List.getElem?_map, a]
    rfl
  | _ => exact h.elim
@[simp] def wTbRowLen (i : Nat) (wk : DE) : DE := fun s Φ => tbAt s i fun _ _ _ => wk s fun k s1 => tbRow s1 i k fun _ _ _ _ xs => Φ (.int xs.length) s1
theorem xe_tbRowLen {i : Nat} {x : Str} {xp xp2 p1 : Pos} {k : Expr} {wk : DE} (hg : Gl X "len") (hm : X.mg "len" = none) (hv : PE X (.Name x xp) (tVar i)) (hk : XE X k wk) (hs : PlainIx k := by exact fun _ _ => rfl)
    (he : starEach [.Subscript (.Name x xp) k xp2] X.env = (false, eval (.Subscript (.Name x xp) k xp2) X.env) :: starEach [] X.env := by rfl)
    (hpl : (backTo pos (starEach [] X.env)).any (·.1) = false := by rfl) : XE X (.Call (.Name "len" p1) [.Subscript (.Name x xp) k xp2] [] pos) (wTbRowLen i wk) :=
  pe_imp (pe_callB call_len_seq hg hm (by decide +kernel) (pa_cons (pe_ix ix_list hv hk hs) pa_nil he) (by decide) (by decide) he hpl) fun σ H Q h => by
    obtain ⟨G, P, F, s, Φ, R, h, kk⟩ := h
    obtain ⟨p0, qs0, xss0, h0, h⟩ := tbAt_of h
    refine ⟨_, (R.sl i _ h0).1, G, P, F, s, _, R, h, fun u F2 H2 s2 y R2 e2 d2 q2 => ?_⟩
    obtain ⟨p, qs, xss, k', j, xs, r, vs, t0, rfl, t1, t2, t3, t4, t5, t6, t7, q⟩ := tbRow_of R2 q2
    cases d2
    have e := (R.sl i _ h0).1
    rw [t1] at e
    cases e
    refine ⟨_, _, k', _, rfl, rfl, SqL.of t2, t3, r, vs, rfl, .inl (SqL.of t6), ?_⟩
    rw [t7.length]
    exact kk _ F2 H2 s2 _ R2 e2 (.int _) q
/-- table[a][b] -/
@[simp] def wTbIx (i : Nat) (wa wb : DE) : DE := fun s Φ => tbAt s i fun _ _ _ => wa s fun a s1 => tbRow s1 i a fun _ _ _ j _ => wb s1 fun b s2 => s2.e[i]? = s1.e[i]? ∧ tbAt s2 i fun _ _ xss => match b with
  | .int b => optP xss[j]? fun xs => optP (atI xs b) fun x => Φ x s2
  | _ => False
theorem xe_tbIx {i : Nat} {x : Str} {xp xp2 : Pos} {a b : Expr} {wa wb : DE} (hv : PE X (.Name x xp) (tVar i)) (ha : XE X a wa) (hb : XE X b wb) (hsa : PlainIx a := by exact fun _ _ => rfl) (hsb : PlainIx b := by exact fun _ _ => rfl) :
    XE X (.Subscript (.Subscript (.Name x xp) a xp2) b pos) (wTbIx i wa wb) :=
  pe_imp (pe_ix ix_list (pe_ix ix_list hv ha hsa) hb hsb) fun σ H Q h => by
    obtain ⟨G, P, F, s, Φ, R, h, kk⟩ := h
    obtain ⟨p0, qs0, xss0, h0, h⟩ := tbAt_of h
    refine ⟨_, (R.sl i _ h0).1, G, P, F, s, _, R, h, fun u F2 H2 s2 y R2 e2 d2 q2 => ?_⟩
    obtain ⟨p, qs, xss, k', j, xs, r, vs, t0, rfl, t1, t2, t3, t4, t5, t6, t7, q⟩ := tbRow_of R2 q2
    cases d2
    have e := (R.sl i _ h0).1
    rw [t1] at e
    cases e
    refine ⟨_, _, k', _, rfl, rfl, SqL.of t2, t3, G, P, F2, s2, _, R2, q, fun w F3 H3 s3 z R3 e3 d3 q3 => ?_⟩
    obtain ⟨es, q3⟩ := q3
    obtain ⟨p4, qs4, xss4, h4, q3⟩ := tbAt_of q3
    rw [es, t0] at h4
    cases h4
    cases z with
    | int b =>
      cases d3
      obtain ⟨xs4, x1, q3⟩ := optP_of q3
      obtain ⟨x4, x2, q3⟩ := optP_of q3
      have hh := R3.sl i _ (es.trans t0)
      obtain ⟨_, _, _, _, _, _, rows⟩ := hh
      obtain ⟨r', vs', y1, y2, y3⟩ := rows.get x1
      rw [t4] at y1
      cases y1
      obtain ⟨v, z1, z2⟩ := atI_up y3 x2
      exact ⟨r, vs', b, v, rfl, rfl, SqL.of y2, z1, kk v F3 H3 s3 x4 R3 (e2.trans e3) z2 q3⟩
    | _ => exact q3.elim
/-- table[a][b] = e -/
@[simp] def wTbSet (i : Nat) (wa wb we : DE) : DS := fun Φ s => we s fun x s0 => tbAt s0 i fun _ _ _ => wa s0 fun a s1 => tbRow s1 i a fun _ _ _ j _ => wb s1 fun b s2 => s2.e[i]? = s1.e[i]? ∧ tbAt s2 i fun p qs xss => match b with
  | .int b => optP xss[j]? fun xs => optP (ixN xs.length b) fun l => Φ.nx (s2.put i (.tb p qs (xss.set j (xs.set l x))))
  | _ => False
theorem xs_tbSet {i : Nat} {x : Str} {xp xp2 p1 : Pos} {a b e : Expr} {wa wb we : DE} (hv : PE X (.Name x xp) (tVar i)) (ha : XE X a wa) (hb : XE X b wb) (h : XE X e we) (hsa : PlainIx a := by exact fun _ _ => rfl)
    (hs : swapsWithSole [.Subscript (.Subscript (.Name x xp) a xp2) b p1] e pos.line X.env = pure false := by rfl) (hw : swappedStores [.Subscript (.Subscript (.Name x xp) a xp2) b p1] e X.env = pure none := by rfl)
    (hasg : ∀ u, assign (.Subscript (.Subscript (.Name x xp) a xp2) b p1) X.env u = (do let ov ← holding [u] (eval (.Subscript (.Name x xp) a xp2) X.env); let iv ← holding [u, ov] (eval b X.env); standAt p1; holding [u, ov, iv] (setItem ov iv u); release [u, ov, iv] []) := by intro _; rfl) :
    XS X (.Assign [.Subscript (.Subscript (.Name x xp) a xp2) b p1] e pos) (wTbSet i wa wb we) :=
  ps_imp (ps_asg h (pg_sub (pe_ix ix_list hv ha hsa) hb set_list hasg) hs hw) fun D σ H h => by
    obtain ⟨G, P, F, s, Φ, R, h, bb⟩ := h
    refine ⟨G, P, F, s, _, R, h, fun v F1 H1 s1 dx R1 e1 d1 q1 => ?_⟩
    obtain ⟨p0, qs0, xss0, h0, q1⟩ := tbAt_of q1
    refine ⟨_, (R1.sl i _ h0).1, G, P, F1, s1, _, R1, q1, fun u F2 H2 s2 y R2 e2 d2 q2 => ?_⟩
    obtain ⟨p, qs, xss, k', j, xs, r, vs, t0, rfl, t1, t2, t3, t4, t5, t6, t7, q⟩ := tbRow_of R2 q2
    cases d2
    have e := (R1.sl i _ h0).1
    rw [t1] at e
    cases e
    refine ⟨_, _, k', _, rfl, rfl, SqL.of t2, t3, G, P, F2, s2, _, R2, q, fun w F3 H3 s3 z R3 e3 d3 q3 => ?_⟩
    obtain ⟨es, q3⟩ := q3
    obtain ⟨p4, qs4, xss4, h4, q3⟩ := tbAt_of q3
    have h40 := h4
    rw [es, t0] at h4
    cases h4
    cases z with
    | int b =>
      cases d3
      obtain ⟨xs4, x1, q3⟩ := optP_of q3
      obtain ⟨l, x2, q3⟩ := optP_of q3
      obtain ⟨_, _, _, _, _, _, rows⟩ := R3.sl i _ h40
      obtain ⟨r', vs', y1, y2, y3⟩ := rows.get x1
      rw [t4] at y1
      cases y1
      exact ⟨r, vs', b, l, rfl, rfl, y2, by rw [y3.length]; exact x2, bb.nx _ F3 _ _ (R3.wrT h40 t4 (y3.set l ((d1.mono e2).mono e3))) ((e1.trans e2).trans e3) q3⟩
    | _ => exact q3.elim
/-- table[a].append(e) -/
@[simp] def wTbApp (i : Nat) (wa we : DE) : DS := fun Φ s => tbAt s i fun _ _ _ => wa s fun a s1 => tbRow s1 i a fun _ _ _ j _ => we s1 fun x s2 => s2.e[i]? = s1.e[i]? ∧ tbAt s2 i fun p qs xss => optP xss[j]? fun xs => xs.length < sizeLine ∧ Φ.nx (s2.put i (.tb p qs (xss.set j (xs ++ [x]))))
theorem tbApp_of {K : PySem.W.Frag} {W : XWish} {i : Nat} {wa we : DE} (D : Ends) (σ : L2.St) (H : Hp) (h : tS K W (wTbApp i wa we) D σ H) : tDrop (tBM K "list" rAppend (tOp (rIxL K) (tVar i) (tE K wa)) (tCons (tE K we) tNil)) D σ H := by
  obtain ⟨G, P, F, s, Φ, R, h, bb⟩ := h
  obtain ⟨p0, qs0, xss0, h0, h⟩ := tbAt_of h
  refine ⟨_, (R.sl i _ h0).1, G, P, F, s, _, R, h, fun u F2 H2 s2 y R2 e2 d2 q2 => ?_⟩
  obtain ⟨p, qs, xss, k', j, xs, r, vs, t0, rfl, t1, t2, t3, t4, t5, t6, t7, q⟩ := tbRow_of R2 q2
  cases d2
  have e := (R.sl i _ h0).1
  rw [t1] at e
  cases e
  refine ⟨_, _, k', _, rfl, rfl, SqL.of t2, t3, .inl ⟨rfl, _, SqL.of t6⟩, G, P, F2, s2, _, R2, q, fun w F3 H3 s3 z R3 e3 d3 q3 => ?_⟩
  obtain ⟨es, q3⟩ := q3
  obtain ⟨p4, qs4, xss4, h4, q3⟩ := tbAt_of q3
  have h40 := h4
  rw [es, t0] at h4
  cases h4
  obtain ⟨xs4, x1, hl, q3⟩ := optP_of q3
  obtain ⟨_, _, _, _, _, _, rows⟩ := R3.sl i _ h40
  obtain ⟨r', vs', y1, y2, y3⟩ := rows.get x1
  rw [t4] at y1
  cases y1
  exact ⟨r, vs', w, rfl, rfl, y2, by rw [y3.length]; exact hl, bb.nx _ F3 _ _ (R3.wrT h40 t4 (y3.append (.cons d3 .nil))) (e2.trans e3) q3⟩
theorem xs_tbApp {i : Nat} {x : Str} {xp xp2 p1 p2 : Pos} {a e : Expr} {wa we : DE} (hv : PE X (.Name x xp) (tVar i)) (ha : XE X a wa) (h : XE X e we) (hsa : PlainIx a := by exact fun _ _ => rfl)
    (hbase : attributeBase (.Subscript (.Name x xp) a xp2) "append" X.env (eval (.Subscript (.Name x xp) a xp2) X.env) = eval (.Subscript (.Name x xp) a xp2) X.env := by rfl)
    (hfew : ((backTo p2 (starEach [e] X.env)).all (fun x => !x.1) && (backToKw p2 (keywordEach [] X.env)).all (fun x => x.1.isSome) && decide ([e].length + ([] : List Keyword).length + (if ([] : List Keyword).isEmpty then 0 else 1) < 30)) = true := by rfl)
    (hline : (p1.endLine == p2.line) = true := by rfl) (hs : starEach [e] X.env = (false, eval e X.env) :: starEach [] X.env := by rfl) (hplain : (backTo p2 (starEach [] X.env)).any (·.1) = false := by rfl)
    (hsw : swapsWith (.Call (.Attribute (.Subscript (.Name x xp) a xp2) "append" p1) [e] [] p2) none pos.line X.env = pure false := by rfl) : XS X (.Expr (.Call (.Attribute (.Subscript (.Name x xp) a xp2) "append" p1) [e] [] p2) pos) (wTbApp i wa we) :=
  ps_imp (ps_expr (pe_bm PySem.F.plainAttrs_list PySem.F.slot_list_append PySem.F.type_list_append mt_append (pe_ix ix_list hv ha hsa) (pa_cons h pa_nil hs) hbase hfew hline hs hplain) hsw) tbApp_of
end
end DL
/-! DL: places of signs in texts; lists turned about; a[b] += e -/
namespace DL
open PySem PySem.Spec PyProof.Rows L2
section
open Builtin Builtin.Str PySem.StrLaws
theorem occ_stays (s sub : Str) (hi : Nat) : ∀ (l : List Nat) (st : Array Nat × Nat), st.fst.size = 1 → (forIn l st (occBody s sub hi 1)).run.fst = st.fst
  | [], st, h => rfl
  | a :: l, st, h => by
    rw [List.forIn_cons]
    unfold occBody
    rw [if_neg (fun z => by have := z.1.1.1; omega)]
    exact occ_stays s sub hi l st h
theorem occ_first (s sub : Str) (hi m : Nat) (hm : m + sub.length ≤ hi ∧ subAt s sub m = true) : ∀ (n lo free : Nat), free ≤ lo → lo ≤ m → m < lo + n → (∀ k, lo ≤ k → k < m → ¬ (k + sub.length ≤ hi ∧ subAt s sub k = true)) →
    (forIn (List.range' lo n) ((#[] : Array Nat), free) (occBody s sub hi 1)).run.fst = #[m]
  | 0, lo, free, _, h1, h2, _ => by omega
  | n + 1, lo, free, hf, h1, h2, h3 => by
    rw [List.range'_succ, List.forIn_cons]
    by_cases e : lo = m
    · subst e
      unfold occBody
      rw [if_pos ⟨⟨⟨by simp, hf⟩, hm.1⟩, hm.2⟩]
      exact occ_stays s sub hi _ _ (by simp)
    · unfold occBody
      rw [if_neg (fun z => h3 lo (Nat.le_refl _) (by omega) ⟨z.1.2, z.2⟩)]
      exact occ_first s sub hi m hm n (lo + 1) free (by omega) (by omega) (by omega) fun k hk => h3 k (by omega)
theorem occ_idx {s : Str} {c : Nat} (h : c ∈ s.cps.toList) : occurrences s ⟨#[c]⟩ 0 s.length 1 = [s.cps.toList.idxOf c] := by
  have h1 : s.cps.toList[s.cps.toList.idxOf c]? = some c := by
    rw [List.getElem?_eq_getElem (List.idxOf_lt_length_iff.mpr h), List.getElem_idxOf]
  have h2 := (subAt_one s c _).mpr h1
  have hl : s.cps.toList.idxOf c < s.length := by
    have := List.idxOf_lt_length_iff.mpr h
    rw [Array.length_toList] at this
    exact this
  rw [occ_eq, occ_first s ⟨#[c]⟩ s.length _ h2 _ 0 0 (Nat.le_refl _) (Nat.zero_le _) (by omega) fun k _ hk z => ?_]
  have h3 := (subAt_one s c k).mp z
  have h4 := List.not_of_lt_findIdx (p := (· == c)) (xs := s.cps.toList) (i := k) (by simpa [List.idxOf] using hk)
  have h5 := (List.getElem?_eq_some_iff.mp h3)
  obtain ⟨h6, h7⟩ := h5
  simp [h7] at h4
end
/-- the place of a sign in a text -/
@[simp] def wIndex (wo we : DE) : DE := fun s Φ => wo s fun a s1 => match a with
  | .str a => we s1 fun b s2 => match b with
    | .str b => ∃ c, b = ⟨#[c]⟩ ∧ c ∈ a.cps.toList ∧ Φ (.int (a.cps.toList.idxOf c : Nat)) s2
    | _ => False
  | _ => False
section
variable {X : Cx} {pos : Pos}
theorem xe_index {o e : Expr} {apos : Pos} {wo we : DE} (ho : XE X o wo) (he : XE X e we)
    (hbase : attributeBase o "index" X.env (eval o X.env) = eval o X.env := by rfl)
    (hfew : ((backTo pos (starEach [e] X.env)).all (fun x => !x.1) && (backToKw pos (keywordEach [] X.env)).all (fun x => x.1.isSome) && decide ([e].length + ([] : List Keyword).length + (if ([] : List Keyword).isEmpty then 0 else 1) < 30)) = true := by rfl)
    (hline : (apos.endLine == pos.line) = true := by rfl) (hs : starEach [e] X.env = (false, eval e X.env) :: starEach [] X.env := by rfl) (hplain : (backTo pos (starEach [] X.env)).any (·.1) = false := by rfl) :
    XE X (.Call (.Attribute o "index" apos) [e] [] pos) (wIndex wo we) :=
  pe_imp (pe_bm PySem.F.plainAttrs_str PySem.F.slot_str_index PySem.F.type_str_index mt_sindex ho (pa_cons he pa_nil hs) hbase hfew hline hs hplain) fun σ H Q h => by
    obtain ⟨G, P, F, s, Φ, R, h, kk⟩ := h
    refine ⟨G, P, F, s, _, R, h, fun v F1 H1 s1 x R1 e1 d1 q1 => ?_⟩
    cases x with
    | str a =>
      cases d1
      refine ⟨rfl, G, P, F1, s1, _, R1, q1, fun u F2 H2 s2 y R2 e2 d2 q2 => ?_⟩
      cases y with
      | str b =>
        cases d2
        obtain ⟨c, rfl, hc, q2⟩ := q2
        exact ⟨a, _, _, [], rfl, rfl, occ_idx hc, kk _ F2 H2 s2 _ R2 (e1.trans e2) (.int _) q2⟩
      | _ => exact q2.elim
    | _ => exact q1.elim
/-- x.reverse() -/
@[simp] def wRev (i : Nat) : DS := fun Φ s => ownAt s i fun xs => Φ.nx (s.put i (.o xs.reverse))
theorem dqa_rev {K : PySem.W.Frag} {F : Hp} : ∀ {vs : List V} {xs : List PyData}, DqA K F vs xs → DqA K F vs.reverse xs.reverse
  | _, [], h => by cases h; exact .nil
  | _, _ :: _, h => by
    cases h with
    | cons h1 h2 =>
      rw [List.reverse_cons, List.reverse_cons]
      exact (dqa_rev h2).append (.cons h1 .nil)
theorem xs_rev {i : Nat} {x : Str} {xp p1 p2 : Pos} (hv : PE X (.Name x xp) (tVar i))
    (hbase : attributeBase (.Name x xp) "reverse" X.env (eval (.Name x xp) X.env) = eval (.Name x xp) X.env := by rfl) (hline : (p1.endLine == p2.line) = true := by rfl)
    (hsw : swapsWith (.Call (.Attribute (.Name x xp) "reverse" p1) [] [] p2) none pos.line X.env = pure false := by rfl) : XS X (.Expr (.Call (.Attribute (.Name x xp) "reverse" p1) [] [] p2) pos) (wRev i) :=
  ps_imp (ps_expr (pe_bm0 PySem.F.plainAttrs_list PySem.F.slot_list_reverse PySem.F.type_list_reverse mt_reverse hv hbase hline) hsw) fun D σ H h => by
    obtain ⟨G, P, F, s, Φ, R, h, b⟩ := h
    obtain ⟨xs, h0, h⟩ := ownAt_of h
    obtain ⟨p, vs, e1, _, _, _, e5, e6⟩ := R.sl i _ h0
    exact ⟨_, e1, .inl ⟨rfl, _, SqL.of e5⟩, p, vs, rfl, rfl, e5, b.nx _ F _ _ (R.wrO h0 e1 (dqa_rev e6)) (Same.refl F) h⟩
/-- sum(x), x one's own -/
@[simp] def wOwnSum (i : Nat) : DE := fun s Φ => ownAt s i fun xs => ∃ ns : List Int, xs = ns.map .int ∧ Φ (.int ns.sum) s
theorem xe_ownSum {i : Nat} {x : Str} {xp p1 : Pos} (hc : X.calm = true) (hg : Gl X "sum") (hm : X.mg "sum" = none) (hv : PE X (.Name x xp) (tVar i)) (he : starEach [.Name x xp] X.env = (false, eval (.Name x xp) X.env) :: starEach [] X.env := by rfl)
    (hpl : (backTo pos (starEach [] X.env)).any (·.1) = false := by rfl) : XE X (.Call (.Name "sum" p1) [.Name x xp] [] pos) (wOwnSum i) :=
  pe_imp (pe_callB (cr_sum hc) hg hm (by decide +kernel) (pa_cons hv pa_nil he) (by decide) (by decide) he hpl) fun σ H Q h => by
    obtain ⟨G, P, F, s, Φ, R, h, kk⟩ := h
    obtain ⟨xs, h0, ns, rfl, h⟩ := ownAt_of h
    obtain ⟨p, vs, g1, _, _, _, g5, g6⟩ := R.sl i _ h0
    have e := g6.ints
    subst e
    exact ⟨_, g1, p, ns, rfl, SqL.of g5, kk _ F H s _ R (Same.refl F) (.int _) h⟩
end
end DL
/-! DL: a[b] += e; lists of two fors; pairs in order; how often a sign stands in a text -/
namespace DL
open PySem PySem.Spec PyProof.Rows L2
section
open Builtin Builtin.Str PySem.StrLaws
theorem occ_cnt (s : Str) (c limit : Nat) : ∀ (n lo free : Nat) (st : Array Nat), free ≤ lo → st.size + n ≤ limit → lo + n = s.length + 1 →
    (forIn (List.range' lo n) (st, free) (occBody s ⟨#[c]⟩ s.length limit)).run.fst.size = st.size + (s.cps.toList.drop lo).count c
  | 0, lo, free, st, hf, hl, hn => by
    rw [List.drop_eq_nil_of_le (by
      have : s.cps.toList.length = s.length := Array.length_toList
      omega)]
    rfl
  | n + 1, lo, free, st, hf, hl, hn => by
    have hlen : s.cps.toList.length = s.length := Array.length_toList
    rw [List.range'_succ, List.forIn_cons]
    by_cases e : s.cps.toList[lo]? = some c
    · have h2 := (subAt_one s c lo).mpr e
      unfold occBody
      rw [if_pos ⟨⟨⟨by show st.size < limit; omega, hf⟩, h2.1⟩, h2.2⟩]
      have hlt := (List.getElem?_eq_some_iff.mp e)
      obtain ⟨hlt, e2⟩ := hlt
      have := occ_cnt s c limit n (lo + 1) (lo + 1) (st.push lo) (Nat.le_refl _) (by rw [Array.size_push]; omega) (by omega)
      rw [List.drop_eq_getElem_cons hlt, e2, List.count_cons_self]
      rw [Array.size_push] at this
      show (forIn (List.range' (lo + 1) n) (st.push lo, lo + 1) (occBody s ⟨#[c]⟩ s.length limit)).run.fst.size = _
      rw [this]
      omega
    · unfold occBody
      rw [if_neg (fun z => e ((subAt_one s c lo).mp ⟨z.1.2, z.2⟩))]
      have := occ_cnt s c limit n (lo + 1) free st (by omega) (by omega) (by omega)
      show (forIn (List.range' (lo + 1) n) (st, free) (occBody s ⟨#[c]⟩ s.length limit)).run.fst.size = _
      rw [this]
      by_cases hlt : lo < s.cps.toList.length
      · rw [List.drop_eq_getElem_cons hlt, List.count_cons_of_ne]
        intro z
        exact e (by rw [List.getElem?_eq_getElem hlt, z])
      · rw [List.drop_eq_nil_of_le (by omega), List.drop_eq_nil_of_le (by omega)]
theorem count_one (s : Str) (c : Nat) : Txt.count s ⟨#[c]⟩ = ((s.cps.toList.count c : Nat) : Int) := by
  show (((occurrences s ⟨#[c]⟩ 0 s.length (s.length + 1)).length : Nat) : Int) = _
  rw [occ_eq, Array.length_toList, occ_cnt s c _ _ 0 0 #[] (Nat.le_refl _) (by simp) (by simp)]
  simp
end
@[simp] def wCount (wo we : DE) : DE := fun s Φ => wo s fun a s1 => match a with
  | .str a => we s1 fun b s2 => match b with
    | .str b => ∃ c, b = ⟨#[c]⟩ ∧ Φ (.int (a.cps.toList.count c : Nat)) s2
    | _ => False
  | _ => False
section
variable {X : Cx} {pos : Pos}
theorem xe_count {o e : Expr} {apos : Pos} {wo we : DE} (ho : XE X o wo) (he : XE X e we)
    (hbase : attributeBase o "count" X.env (eval o X.env) = eval o X.env := by rfl)
    (hfew : ((backTo pos (starEach [e] X.env)).all (fun x => !x.1) && (backToKw pos (keywordEach [] X.env)).all (fun x => x.1.isSome) && decide ([e].length + ([] : List Keyword).length + (if ([] : List Keyword).isEmpty then 0 else 1) < 30)) = true := by rfl)
    (hline : (apos.endLine == pos.line) = true := by rfl) (hs : starEach [e] X.env = (false, eval e X.env) :: starEach [] X.env := by rfl) (hplain : (backTo pos (starEach [] X.env)).any (·.1) = false := by rfl) :
    XE X (.Call (.Attribute o "count" apos) [e] [] pos) (wCount wo we) :=
  pe_imp (pe_bm PySem.F.plainAttrs_str PySem.F.slot_str_count PySem.F.type_str_count mt_count ho (pa_cons he pa_nil hs) hbase hfew hline hs hplain) fun σ H Q h => by
    obtain ⟨G, P, F, s, Φ, R, h, kk⟩ := h
    refine ⟨G, P, F, s, _, R, h, fun v F1 H1 s1 x R1 e1 d1 q1 => ?_⟩
    cases x with
    | str a =>
      cases d1
      refine ⟨rfl, G, P, F1, s1, _, R1, q1, fun u F2 H2 s2 y R2 e2 d2 q2 => ?_⟩
      cases y with
      | str b =>
        cases d2
        obtain ⟨c, rfl, q2⟩ := q2
        refine ⟨a, _, rfl, rfl, ?_⟩
        rw [count_one]
        exact kk _ F2 H2 s2 _ R2 (e1.trans e2) (.int _) q2
      | _ => exact q2.elim
    | _ => exact q1.elim
end
/-! a[b] += e, a one's own -/
theorem pg_list {X : Cx} : PGet X (rIxL X.K) := by
  intro pins s σ H o i ov iv Q I r1 r2 h
  obtain ⟨p, xs, i, z, rfl, rfl, hq, he, q⟩ := h
  cases r1
  obtain ⟨t, rfl⟩ := r2
  obtain ⟨its, r, pl, hz⟩ := I.list hq
  obtain ⟨j, h1, h2, h3, h4, h5⟩ := L2.atI_get he
  obtain ⟨w, ew, rw'⟩ := r.get h2
  have hl := r.length
  have hn := line63
  have fin : EP X pins σ Q w s := ⟨z, H, I, rw', q⟩
  by_cases h0 : 0 ≤ i
  · have hj : i.toNat = j := by
      rw [seqIndex_of h0 h5] at h1
      exact Option.some.inj h1
    exact wpAny_getItem_list (Q := EP X pins σ Q) pl.isList h0 (by omega) (by rw [hj]; simpa using ew) fin
  · have hj : (i + (its.toArray.size : Int)).toNat = j := by
      rw [seqIndex_neg (by omega) h4] at h1
      rw [List.size_toArray, ← hl]
      exact Option.some.inj h1
    exact wpAny_getItem_list_neg (Q := EP X pins σ Q) pl.isList (by omega) (by rw [List.size_toArray] <;> omega) (by omega) (by rw [hj]; simpa using ew) fin
@[simp] def wAugO (i : Nat) (f : Int → Int → Int) (wi we : DE) : DS := fun Φ s => ownAt s i fun _ => wi s fun k s1 => ownAt s1 i fun xs => match k with
  | .int k => match atI xs k with
    | some (.int m) => we s1 fun y s2 => match y with
      | .int n => ownAt s2 i fun xs2 => optP (ixN xs2.length k) fun j => Φ.nx (s2.put i (.o (xs2.set j (.int (f m n)))))
      | _ => False
    | _ => False
  | _ => False
section
variable {X : Cx} {pos : Pos}
theorem xs_augO {i : Nat} {x : Str} {xp p1 : Pos} {k e : Expr} {wi we : DE} {op : Operator} {f : Int → Int → Int} (hv : PE X (.Name x xp) (tVar i)) (hk : XE X k wi) (h : XE X e we) (ho : PIp X op (ipI f))
    (ha : ∀ ov iv new, augStore k ov iv new = (do holding [new, ov, iv] (setItem ov iv new); release [new, ov, iv] []; pure .next) := by intros; rfl) : XS X (.AugAssign (.Subscript (.Name x xp) k p1) op e pos) (wAugO i f wi we) :=
  ps_imp (ps_augS hv hk pg_list h ho set_list ha) fun D σ H h => by
    obtain ⟨G, P, F, s, Φ, R, h, b⟩ := h
    obtain ⟨xs0, h0, h⟩ := ownAt_of h
    obtain ⟨p, vs, g1, _, _, _, g5, _⟩ := R.sl i _ h0
    refine ⟨_, g1, G, P, F, s, _, R, h, fun u F1 H1 s1 y R1 e1 d1 q1 => ?_⟩
    obtain ⟨xs, h1, q1⟩ := ownAt_of q1
    obtain ⟨p', vs', k1, _, _, _, k5, k6⟩ := R1.sl i _ h1
    rw [g1] at k1
    cases k1
    cases y with
    | int k =>
      cases d1
      dsimp only at q1
      cases hj : atI xs k with
      | none => rw [hj] at q1; exact q1.elim
      | some d =>
        rw [hj] at q1
        cases d with
        | int m =>
          obtain ⟨v, z1, z2⟩ := atI_up k6 hj
          cases z2
          refine ⟨p, vs', k, _, rfl, rfl, SqL.of k5, z1, G, P, F1, s1, _, R1, q1, fun w F2 H2 s2 z R2 e2 d2 q2 => ?_⟩
          cases z with
          | int n =>
            cases d2
            obtain ⟨xs2, h2, q2⟩ := ownAt_of q2
            obtain ⟨j, hj2, q2⟩ := optP_of q2
            obtain ⟨p2, vs2, l1, _, _, _, l5, l6⟩ := R2.sl i _ h2
            rw [g1] at l1
            cases l1
            exact ⟨m, n, rfl, rfl, p, vs2, k, j, rfl, rfl, l5, by rw [l6.length]; exact hj2, b.nx _ F2 _ _ (R2.wrO h2 g1 (l6.set j (.int _))) (e1.trans e2) q2⟩
          | _ => exact q2.elim
        | _ => exact q1.elim
    | _ => exact q1.elim
end
end DL
/-! DL: lists of two fors; pairs in order -/
namespace DL
open PySem PySem.Spec PyProof.Rows L2
section
variable {K : PySem.W.Frag} {G F H F' H' : Hp} {P : Option Addr} {σ τ : L2.St} {s : S} {vs : List Nat} {D : Addr} {acc : List V}
/-- a kept list, to be changed again -/
theorem Rep.openG (R : Rep K (upd G D (.lst acc)) P F H σ s) (g : G D = none) : Rep K G P F H σ s ∧ Nu G P F σ s D := by
  have tG : TabsAt K G ∧ Tk F H := ⟨⟨fun b hb => by
    have q := R.tab.1.1 b hb
    by_cases e : b = D
    · rw [e, upd_same] at q
      cases q
    · rw [upd_ne e] at q
      exact q, fun b hb => by
    obtain ⟨ps, q⟩ := R.tab.1.2 b hb
    by_cases e : b = D
    · rw [e, upd_same] at q
      cases q
    · rw [upd_ne e] at q
      exact ⟨ps, q⟩⟩, R.tab.2⟩
  refine ⟨R.weakG (fun b o q => ?_) tG, ⟨R.apart D _ upd_same, g, fun z => ?_, fun i xs hx e => ?_, fun i x hx m => ?_⟩⟩
  · rw [upd_ne (fun z => by rw [z, g] at q; cases q)]
    exact q
  · have := (R.pool D z).2.1
    rw [upd_same] at this
    cases this
  · obtain ⟨p, us, h1, h2, h3, _⟩ := R.sl i _ hx
    rw [e] at h1
    cases h1
    rw [upd_same] at h3
    cases h3
  · have q := R.sl i x hx
    cases x with
    | tb p qs xss =>
      obtain ⟨h1, h2, h3, h4, h5, h6, h7⟩ := q
      rcases List.mem_cons.mp m with e | m
      · rw [← e, upd_same] at h3
        cases h3
      · have : ∀ {qs xss}, RowsOk K (upd G D (.lst acc)) P F H qs xss → D ∉ qs := by
          intro qs xss h
          induction h with
          | nil => intro z; cases z
          | cons a1 a2 a3 a4 a5 a6 ih =>
            intro z
            rcases List.mem_cons.mp z with e | z
            · rw [← e, upd_same] at a2
              cases a2
            · exact ih z
        exact this h7 m
    | _ => cases m
end
def lcW2 (vs vs1 : List Nat) (e0 : List Sl) (wg : DG) (wt : DT) (wi1 : DI) (wg1 : DG) (wt1 : DT) (we : DE) (Φ : List PyData → List Int → Prop) : List PyData → List PyData → List Int → Prop
  | [], acc, q => Φ acc q
  | x :: xs, acc, q => wg x ⟨wipeE e0 vs, q⟩ fun s1 => wipeE s1.e vs = wipeE e0 vs ∧ wt s1 fun b s2 => s2.e = s1.e ∧
    (if b = true then wi1 s2 fun ys s3 => s3.e = s1.e ∧ noOwn vs1 s1.e = true ∧ lcW vs1 s1.e wg1 wt1 we (fun acc q => lcW2 vs vs1 e0 wg wt wi1 wg1 wt1 we Φ xs acc q) ys acc s3.q
      else lcW2 vs vs1 e0 wg wt wi1 wg1 wt1 we Φ xs acc s2.q)
@[simp] def wLc2 (vs vs1 : List Nat) (wi : DI) (wg : DG) (wt : DT) (wi1 : DI) (wg1 : DG) (wt1 : DT) (we : DE) : DA := fun s Φ => wi s fun xs s1 => noOwn vs s1.e = true ∧ lcW2 vs vs1 s1.e wg wt wi1 wg1 wt1 we (fun ys q => Φ ys ⟨s1.e, q⟩) xs [] s1.q
theorem lc2_of {K : PySem.W.Frag} {vs vs1 is is1 : List Nat} {wi wi1 : DI} {wg wg1 : DG} {wt wt1 : DT} {we : DE} (hsub : ∀ i ∈ is, i ∈ vs) (hsub1 : ∀ i ∈ is1, i ∈ vs1) (hv : ∀ i ∈ vs1, i ∈ vs) (σ : L2.St) (H : Hp) (Q : VK) (h : tL K (wLc2 vs vs1 wi wg wt wi1 wg1 wt1 we) σ H Q) :
    tLc2 (tI K wi) (tG K is wg) (tT K wt) (tI K wi1) (tG K is1 wg1) (tT K wt1) (tE K we) vs vs1 σ H Q := by
  obtain ⟨G, P, F, s, Φ, R, h, k⟩ := h
  refine ⟨G, P, F, s, _, R, h, fun J F1 H1 s1 xs R1 e1 Y q D hD => ?_⟩
  obtain ⟨hno, q⟩ := q
  obtain ⟨R1', n1⟩ := nu_new (o := .lst []) R1 hD
  refine ⟨fun i m H2 => m = xs.length - i ∧ i ≤ xs.length ∧ ∃ F2 vacc acc q2, Same F1 F2 ∧ H2 D = some (.lst vacc) ∧ DqA K F2 vacc acc ∧ Rep K G P F2 H2 σ ⟨s1.e, q2⟩ ∧ Nu G P F2 σ ⟨s1.e, q2⟩ D ∧
    lcW2 vs vs1 s1.e wg wt wi1 wg1 wt1 we (fun ys q => Φ ys ⟨s1.e, q⟩) (xs.drop i) acc q2, ⟨_, rfl, Nat.zero_le _, F1, [], [], s1.q, Same.refl F1, upd_same, .nil, R1', n1, by simpa using q⟩, ?_⟩
  rintro i m H2 ⟨rfl, hi, F2, vacc, acc, q2, e2, hD2, dacc, R2, n2, w2⟩
  by_cases hl : i < xs.length
  · obtain ⟨go, yl⟩ := (Y F2 H2 e2 R2.same i).1 xs[i] (List.getElem?_eq_getElem hl)
    rw [List.drop_eq_getElem_cons hl] at w2
    refine .inr ⟨go, fun H3 => ∃ F2 vacc acc q2, Same F1 F2 ∧ H3 D = some (.lst vacc) ∧ DqA K F2 vacc acc ∧ Rep K G P F2 H3 σ ⟨s1.e, q2⟩ ∧ Nu G P F2 σ ⟨s1.e, q2⟩ D ∧
      lcW2 vs vs1 s1.e wg wt wi1 wg1 wt1 we (fun ys q => Φ ys ⟨s1.e, q⟩) (xs.drop (i + 1)) acc q2, fun H3 z => ⟨xs.length - (i + 1), by omega, rfl, hl, z⟩, fun v H3 hy => ?_⟩
    obtain ⟨F3, f, dx⟩ := yl v H3 hy
    have RB : Rep K (upd G D (.lst vacc)) P F3 H3 (wipe σ vs) ⟨wipeE s1.e vs, q2⟩ := (R2.block (vs := vs) n2 hD2).fresh f
    refine ⟨_, P, F3, _, xs[i], _, RB, dx, w2, fun σ4 s4 R4 ag l4 q4 => ?_⟩
    obtain ⟨we4, q4⟩ := q4
    have ag' : ∀ i, i ∉ vs → σ4[i]? = σ[i]? := fun j hj => by
      rw [ag j (fun z => hj (hsub j z)), wipe_off hj]
    refine ⟨wipe_same (by rw [l4, wipe_length]) ag', ?_⟩
    refine ⟨_, P, F3, s4, _, R4, q4, fun b F5 H5 s5 R5 e5 q5 => ?_⟩
    obtain ⟨es5, q5⟩ := q5
    have e25 : Same F2 F5 := f.ff.trans e5
    -- the outer turn's end
    have fin : ∀ {F6 H6 : Hp} {s6 : S} {vacc6 : List V} {acc6 : List PyData}, Same F2 F6 → Rep K (upd G D (.lst vacc6)) P F6 H6 σ4 s6 → s6.e = s4.e → DqA K F6 vacc6 acc6 → lcW2 vs vs1 s1.e wg wt wi1 wg1 wt1 we (fun ys q => Φ ys ⟨s1.e, q⟩) (xs.drop (i + 1)) acc6 s6.q →
        ∃ F2 vacc acc q2, Same F1 F2 ∧ H6 D = some (.lst vacc) ∧ DqA K F2 vacc acc ∧ Rep K G P F2 H6 σ ⟨s1.e, q2⟩ ∧ Nu G P F2 σ ⟨s1.e, q2⟩ D ∧ lcW2 vs vs1 s1.e wg wt wi1 wg1 wt1 we (fun ys q => Φ ys ⟨s1.e, q⟩) (xs.drop (i + 1)) acc q2 := by
      intro F6 H6 s6 vacc6 acc6 e26 R6 es6 d6 q6
      obtain ⟨R7, n7, hD7⟩ := R2.unblock (vs := vs) (acc' := vacc6) n2 hno e26 R6 (by rw [es6]; exact we4) ag'
      have eu : upd H6 D (.lst vacc6) = H6 := by
        funext b
        by_cases hb : b = D
        · rw [hb, upd_same, hD7]
        · rw [upd_ne hb]
      rw [eu] at R7
      exact ⟨F6, vacc6, acc6, s6.q, e2.trans e26, hD7, d6, R7, n7, q6⟩
    cases b with
    | true =>
      rw [if_pos rfl] at q5 ⊢
      refine ⟨_, P, F5, s5, _, R5, q5, fun J1 F6 H6 s6 ys R6 e6 Y1 q6 => ?_⟩
      obtain ⟨es6, hno1, q6⟩ := q6
      obtain ⟨R6o, n6⟩ := R6.openG n2.g
      have e26 : Same F2 F6 := e25.trans e6
      have R6o' : Rep K G P F6 H6 σ4 ⟨s4.e, s6.q⟩ := by rw [← es6]; exact R6o
      have n6' : Nu G P F6 σ4 ⟨s4.e, s6.q⟩ D := by rw [← es6]; exact n6
      refine ⟨fun j k H7 => k = ys.length - j ∧ j ≤ ys.length ∧ ∃ F7 vacc7 acc7 q7, Same F6 F7 ∧ H7 D = some (.lst vacc7) ∧ DqA K F7 vacc7 acc7 ∧ Rep K G P F7 H7 σ4 ⟨s4.e, q7⟩ ∧ Nu G P F7 σ4 ⟨s4.e, q7⟩ D ∧
        lcW vs1 s4.e wg1 wt1 we (fun acc q => lcW2 vs vs1 s1.e wg wt wi1 wg1 wt1 we (fun ys q => Φ ys ⟨s1.e, q⟩) (xs.drop (i + 1)) acc q) (ys.drop j) acc7 q7,
        ⟨_, rfl, Nat.zero_le _, F6, vacc, acc, s6.q, Same.refl F6, R6.keep.go upd_same, dacc.mono e26, R6o', n6', by simpa using q6⟩, ?_⟩
      rintro j k H7 ⟨rfl, hj, F7, vacc7, acc7, q7, e7, hD7, d7, R7, n7, w7⟩
      by_cases hl1 : j < ys.length
      · obtain ⟨go1, yl1⟩ := (Y1 F7 H7 e7 R7.same j).1 ys[j] (List.getElem?_eq_getElem hl1)
        rw [List.drop_eq_getElem_cons hl1] at w7
        refine .inr ⟨go1, fun H8 => ∃ F7 vacc7 acc7 q7, Same F6 F7 ∧ H8 D = some (.lst vacc7) ∧ DqA K F7 vacc7 acc7 ∧ Rep K G P F7 H8 σ4 ⟨s4.e, q7⟩ ∧ Nu G P F7 σ4 ⟨s4.e, q7⟩ D ∧
          lcW vs1 s4.e wg1 wt1 we (fun acc q => lcW2 vs vs1 s1.e wg wt wi1 wg1 wt1 we (fun ys q => Φ ys ⟨s1.e, q⟩) (xs.drop (i + 1)) acc q) (ys.drop (j + 1)) acc7 q7,
          fun H8 z => ⟨ys.length - (j + 1), by omega, rfl, hl1, z⟩, fun v H8 hy8 => ?_⟩
        obtain ⟨F8, f8, dx8⟩ := yl1 v H8 hy8
        have RB8 : Rep K (upd G D (.lst vacc7)) P F8 H8 (wipe σ4 vs1) ⟨wipeE s4.e vs1, q7⟩ := (R7.block (vs := vs1) n7 hD7).fresh f8
        refine ⟨_, P, F8, _, ys[j], _, RB8, dx8, w7, fun σ9 s9 R9 ag9 l9 q9 => ?_⟩
        obtain ⟨we9, q9⟩ := q9
        have ag9' : ∀ i, i ∉ vs1 → σ9[i]? = σ4[i]? := fun j hj => by
          rw [ag9 j (fun z => hj (hsub1 j z)), wipe_off hj]
        refine ⟨wipe_same (by rw [l9, wipe_length]) ag9', ?_⟩
        refine ⟨_, P, F8, s9, _, R9, q9, fun b F10 H10 s10 R10 e10 q10 => ?_⟩
        obtain ⟨es10, q10⟩ := q10
        have e710 : Same F7 F10 := f8.ff.trans e10
        cases b with
        | true =>
          rw [if_pos rfl] at q10 ⊢
          refine ⟨_, P, F10, s10, _, R10, q10, fun y F11 H11 s11 dy R11 e11 d11 q11 => ?_⟩
          obtain ⟨es11, hz, q11⟩ := q11
          obtain ⟨R12, n12, hD12⟩ := R7.unblock (vs := vs1) (acc' := vacc7 ++ [y]) n7 hno1 (e710.trans e11) R11 (by rw [es11]; exact we9) ag9'
          exact ⟨vacc7, hD12, by rw [d7.length]; exact hz, F11, vacc7 ++ [y], acc7 ++ [dy], s11.q, e7.trans (e710.trans e11), upd_same, (d7.mono (e710.trans e11)).append (.cons d11 .nil), R12, n12, q11⟩
        | false =>
          rw [if_neg Bool.false_ne_true] at q10 ⊢
          obtain ⟨R12, n12, hD12⟩ := R7.unblock (vs := vs1) (acc' := vacc7) n7 hno1 e710 R10 (by rw [es10]; exact we9) ag9'
          have eu : upd H10 D (.lst vacc7) = H10 := by
            funext b
            by_cases hb : b = D
            · rw [hb, upd_same, hD12]
            · rw [upd_ne hb]
          rw [eu] at R12
          exact ⟨F10, vacc7, acc7, s10.q, e7.trans e710, hD12, d7.mono e710, R12, n12, q10⟩
      · refine .inl ⟨(Y1 F7 H7 e7 R7.same j).2 (by omega), ?_⟩
        rw [List.drop_eq_nil_of_le (show ys.length ≤ j from by omega)] at w7
        have RB7 : Rep K (upd G D (.lst vacc7)) P F7 H7 σ4 ⟨s4.e, q7⟩ := R7.block (vs := []) n7 hD7
        exact fin (e26.trans e7) RB7 rfl d7 w7
    | false =>
      rw [if_neg Bool.false_ne_true] at q5 ⊢
      exact fin e25 R5 es5 (dacc.mono e25) q5
  · refine .inl ⟨(Y F2 H2 e2 R2.same i).2 (by omega), ?_⟩
    rw [List.drop_eq_nil_of_le (by omega)] at w2
    exact k D vacc F2 H2 ⟨s1.e, q2⟩ acc R2 (e1.trans e2) n2 hD2 dacc w2
section
variable {X : Cx} {pos : Pos}
theorem xl_lc2 {elt tg iter tg1 iter1 : Expr} {ifs ifs1 : List Expr} {scope : Scope} {own : List (Str × Nat)} {vs1 is is1 : List Nat} {wi wi1 : DI} {wg wg1 : DG} {wt wt1 : DT} {we : DE} (hc : X.calm = true) (hN : X.N.Nodup) (hi : XI X tg iter wi) (ok : BlkOk X.N X.env.scope scope own) (hv : ∀ i ∈ vs1, i ∈ own.map (·.2)) (hsub : ∀ i ∈ is, i ∈ own.map (·.2)) (hsub1 : ∀ i ∈ is1, i ∈ vs1)
    (hg : ∀ (s : Shared) (H : Hp) (C : Addr) (cl : List (Str × Addr)) (fp : List Addr), XG (X.blk s H scope (compEnvC scope cl C X.env) fp) tg is wg) (ht : ∀ (s : Shared) (H : Hp) (C : Addr) (cl : List (Str × Addr)) (fp : List Addr), XTs (X.blk s H scope (compEnvC scope cl C X.env) fp) ifs wt)
    (hi1 : ∀ (s : Shared) (H : Hp) (C : Addr) (cl : List (Str × Addr)) (fp : List Addr), XI (X.blk s H scope (compEnvC scope cl C X.env) fp) tg1 iter1 wi1)
    (hg1 : ∀ (s : Shared) (H : Hp) (C : Addr) (cl : List (Str × Addr)) (fp : List Addr), XG (X.blk s H scope (compEnvC scope cl C X.env) fp) tg1 is1 wg1) (ht1 : ∀ (s : Shared) (H : Hp) (C : Addr) (cl : List (Str × Addr)) (fp : List Addr), XTs (X.blk s H scope (compEnvC scope cl C X.env) fp) ifs1 wt1)
    (he : ∀ (s : Shared) (H : Hp) (C : Addr) (cl : List (Str × Addr)) (fp : List Addr), XE (X.blk s H scope (compEnvC scope cl C X.env) fp) elt we) (hs : ∀ x, foldedSetIterable iter X.env x = pure x := by intro _; rfl) (hs1 : ∀ env x, foldedSetIterable iter1 env x = pure x := by intro _ _; rfl) :
    XL X (.ListComp elt [⟨tg, iter, ifs, 0⟩, ⟨tg1, iter1, ifs1, 0⟩] scope pos) (wLc2 (own.map (·.2)) vs1 wi wg wt wi1 wg1 wt1 we) :=
  pe_imp (pe_lc2 (vs1 := vs1) hc hN hi ok hv hg ht hi1 hg1 ht1 he hs hs1) (lc2_of hsub hsub1 hv)
end
/-! sorted(x), x a list of pairs of whole numbers -/
abbrev dPair (p : Int × Int) : PyData := .tuple [.int p.1, .int p.2]
abbrev lePair (p q : Int × Int) : Prop := p.1 < q.1 ∨ (p.1 = q.1 ∧ p.2 ≤ q.2)
@[simp] def wSortP (wa : DE) : DA := fun s Φ => wa s fun x s1 => match x with
  | .list xs => ∃ ps : List (Int × Int), xs = ps.map dPair ∧ ∀ qs : List (Int × Int), qs.Perm ps → qs.Pairwise lePair → Φ (qs.map dPair) s1
  | _ => False
open Classical in
noncomputable def kV (h : Heap) (u : Value) : Int × Int := if e : ∃ p : Int × Int, Srt.IsPair h u p.1 p.2 then e.choose else (0, 0)
theorem isPair_det {h : Heap} {u : Value} {i j m n : Int} (a : Srt.IsPair h u i j) (b : Srt.IsPair h u m n) : i = m ∧ j = n := by
  obtain ⟨a1, o1, t1, u1, n1, e1, g1, c1, d1⟩ := a
  obtain ⟨a2, o2, t2, u2, n2, e2, g2, c2, d2⟩ := b
  rw [e1] at e2
  cases e2
  rw [g1] at g2
  cases g2
  rw [d1] at d2
  injection d2 with d3 _
  have d4 := congrArg Array.toList d3
  simp at d4
  exact ⟨d4.1.1, d4.2.1⟩
theorem kV_eq {h : Heap} {u : Value} {i j : Int} (a : Srt.IsPair h u i j) : kV h u = (i, j) := by
  have e : ∃ p : Int × Int, Srt.IsPair h u p.1 p.2 := ⟨(i, j), a⟩
  unfold kV
  rw [dif_pos e]
  obtain ⟨h1, h2⟩ := isPair_det e.choose_spec a
  exact Prod.ext h1 h2
abbrev ZsOk (K : PySem.W.Frag) (H : Hp) (zs : List (V × (Int × Int))) : Prop := ∀ z ∈ zs, ∃ t, z.1 = V.ref t ∧ SqT K H t [.int z.2.1, .int z.2.2]
def rSortedQ (K : PySem.W.Frag) : List V → Hp → VK → Prop := fun vs H Q => ∃ (a : Addr) (zs : List (V × (Int × Int))), vs = [V.ref a] ∧ SqL K H a (zs.map (·.1)) ∧ ZsOk K H zs ∧
  ∀ (ws : List (V × (Int × Int))) p, ws.Perm zs → (ws.map (·.2)).Pairwise lePair → H p = none → Q (.ref p) (upd H p (.lst (ws.map (·.1))))
theorem zs_back {h : Heap} : ∀ {zs : List (V × (Int × Int))} {its : List Value}, Vals (zs.map (·.1)) its → (∀ z ∈ zs, ∃ t, z.1 = V.ref t ∧ Srt.IsPair h (.ref t) z.2.1 z.2.2) → zs = its.map (fun u => (backV u, kV h u)) ∧ ∀ u ∈ its, (∃ t, u = Value.ref t) ∧ Srt.IsPair h u (kV h u).1 (kV h u).2
  | [], its, r, _ => by
    cases r
    exact ⟨rfl, fun u hu => absurd hu (by simp)⟩
  | z :: zs, its, r, hz => by
    cases r with
    | @cons _ u _ us r1 r2 =>
      obtain ⟨t, e, ip⟩ := hz z List.mem_cons_self
      obtain ⟨h1, h2⟩ := zs_back r2 fun y hy => hz y (List.mem_cons_of_mem _ hy)
      have r1 : RelV z.1 u := r1
      rw [e] at r1
      have eu : u = Value.ref t := r1
      subst eu
      have ek := kV_eq ip
      refine ⟨?_, fun y hy => ?_⟩
      · rw [List.map_cons, ← h1, ek]
        show z :: zs = (V.ref t, _) :: zs
        rw [← e]
      · rcases List.mem_cons.mp hy with e2 | hy
        · rw [e2, ek]
          exact ⟨⟨t, rfl⟩, ip⟩
        · exact h2 y hy
theorem cr_sortedQ {X : Cx} : CallR X (.builtin "sorted") (rSortedQ X.K) := by
  intro pins s σ H vs us Q I r h
  obtain ⟨a, zs, rfl, hs, hx, q⟩ := h
  obtain ⟨its, rv, hl, hz⟩ := I.list hs
  obtain ⟨u, rfl, ru⟩ := vals1 r
  obtain rfl : u = Value.ref a := ru
  have hx' : ∀ z ∈ zs, ∃ t, z.1 = V.ref t ∧ Srt.IsPair s.heap (.ref t) z.2.1 z.2.2 := fun z m => by
    obtain ⟨t, e, ht⟩ := hx z m
    obtain ⟨its2, r2, ⟨o, ho, hc, n, hd⟩, _⟩ := I.tuple ht
    obtain ⟨u1, u2, rfl, ri, rj⟩ := vals2 r2
    obtain ⟨t1, rfl⟩ := ri
    obtain ⟨t2, rfl⟩ := rj
    exact ⟨t, e, t, o, t1, t2, n, rfl, ho, hc, hd⟩
  obtain ⟨e1, e2⟩ := zs_back rv hx'
  refine SrtO.sorted_pairsO (k := kV s.heap) hl.isList (by rw [← rv.length]; exact hz) (fun v hv => (e2 v hv).2) fun h' d out h1 h2 kp hd hn => ?_
  have h3 : ∀ u ∈ out, ∃ a, u = Value.ref a := fun u hu => (e2 u (h2.perm.mem_iff.mp hu)).1
  obtain ⟨n, hn⟩ := hn
  have em : (out.map (fun u => (backV u, kV s.heap u))).map (·.1) = out.map backV := by
    rw [List.map_map]
    rfl
  have key := q (out.map (fun u => (backV u, kV s.heap u))) d (by rw [e1]; exact h2.perm.map _) (by
    rw [List.map_map]
    refine List.pairwise_map.mpr (h1.imp fun {x y} hxy => ?_)
    have a := SrtO.lexB_no.mp hxy
    show lePair (kV s.heap x) (kV s.heap y)
    unfold lePair
    omega) (I.hok.fresh hd)
  rw [em] at key
  refine ⟨.ref d, upd H d (.lst (out.map backV)), I.laid (t' := s.toks) kp hd ⟨?_, out, n, vals_back h3, hn⟩, rfl, key⟩
  have hl2 : (out.map backV).length = (zs.map (·.1)).length := by
    rw [List.length_map, h2.perm.length_eq, rv.length]
  rw [hl2]
  exact hz
theorem dqa_pairs {K : PySem.W.Frag} {F : Hp} : ∀ {vs : List V} {ps : List (Int × Int)}, DqA K F vs (ps.map dPair) → ∃ zs : List (V × (Int × Int)), vs = zs.map (·.1) ∧ ps = zs.map (·.2) ∧ (∀ z ∈ zs, Dq K F z.1 (dPair z.2)) ∧ ZsOk K F zs
  | vs, [], h => by
    cases h
    exact ⟨[], rfl, rfl, fun z m => absurd m (by simp), fun z m => absurd m (by simp)⟩
  | vs, p :: ps, h => by
    cases h with
    | @cons v vs _ _ h1 h2 =>
      obtain ⟨zs, rfl, rfl, h3, h4⟩ := dqa_pairs h2
      refine ⟨(v, p) :: zs, rfl, rfl, fun z m => ?_, fun z m => ?_⟩
      · rcases List.mem_cons.mp m with e | m
        · rw [e]; exact h1
        · exact h3 z m
      · rcases List.mem_cons.mp m with e | m
        · rw [e]
          cases h1 with
          | @tup a xs _ g1 g2 =>
            obtain ⟨v1, v2, rfl, a1, a2⟩ := dqa2 g2
            cases a1
            cases a2
            exact ⟨a, rfl, g1⟩
        · exact h4 z m
theorem dqa_of_zs {K : PySem.W.Frag} {F : Hp} : ∀ {zs : List (V × (Int × Int))}, (∀ z ∈ zs, Dq K F z.1 (dPair z.2)) → DqA K F (zs.map (·.1)) ((zs.map (·.2)).map dPair)
  | [], _ => .nil
  | z :: zs, h => .cons (h z List.mem_cons_self) (dqa_of_zs fun y m => h y (List.mem_cons_of_mem _ m))
section
variable {X : Cx} {pos : Pos}
theorem bb_sorted : bootBuiltins "sorted" = some (.builtin "sorted") := by decide +kernel
theorem xl_sortP {e : Expr} {p : Pos} {wa : DE} (hg : Gl X "sorted") (hm : X.mg "sorted" = none) (ha : XE X e wa) (he : starEach [e] X.env = (false, eval e X.env) :: starEach [] X.env := by rfl) (hpl : (backTo pos (starEach [] X.env)).any (·.1) = false := by rfl) :
    XL X (.Call (.Name "sorted" p) [e] [] pos) (wSortP wa) := pe_imp (pe_callB cr_sortedQ hg hm bb_sorted (pa_cons ha pa_nil he) (by decide) (by decide) he hpl) fun σ H Q h => by
  obtain ⟨G, P, F, s, Φ, R, h, k⟩ := h
  refine ⟨G, P, F, s, _, R, h, fun v F1 H1 s1 x R1 e1 d1 q => ?_⟩
  cases x with
  | list xs =>
    obtain ⟨ps, rfl, q⟩ := q
    cases d1 with
    | @lst a0 vs0 _ h1 h2 =>
      obtain ⟨zs, rfl, rfl, h3, h4⟩ := dqa_pairs h2
      refine ⟨a0, zs, rfl, SqL.of (R1.same _ _ h1), fun z m => ?_, fun ws l pm pw hl => ?_⟩
      · obtain ⟨t, e, ht⟩ := h4 z m
        exact ⟨t, e, same_sqt R1.same ht⟩
      · obtain ⟨R2, n⟩ := nu_new (o := .lst (ws.map (·.1))) R1 hl
        exact k l _ F1 _ s1 _ R2 e1 n upd_same (dqa_of_zs fun z m => h3 z (pm.mem_iff.mp m)) (q (ws.map (·.2)) (pm.map _) pw)
  | _ => exact q.elim
end
end DL
/-! DL: what looks at one's own lists without freezing them; >= of tuples -/
namespace DL
open PySem PySem.Spec PyProof.Rows L2
section
variable {X : Cx} {pos : Pos}
/-- is one's own list not empty -/
@[simp] def wTruO (i : Nat) : DT := fun s Φ => ownAt s i fun xs => Φ (!xs.isEmpty) s
theorem xt_truO {i : Nat} {x : Str} {xp : Pos} (hv : PE X (.Name x xp) (tVar i)) (he : ∀ whole, isTrue (.Name x xp) X.env whole = (do let v ← whole; standAt (Expr.Name x xp).pos; holding [v] (truthy v)) := by intro _; rfl) : XT X (.Name x xp) (wTruO i) :=
  pt_imp (pt_truth hv he) fun σ H Q h => by
    obtain ⟨G, P, F, s, Φ, R, h, k⟩ := h
    obtain ⟨xs, h0, h⟩ := ownAt_of h
    obtain ⟨p, vs, g1, _, _, _, g5, g6⟩ := R.sl i _ h0
    exact ⟨_, g1, _, .inl ⟨_, SqL.of g5, by rw [dqa_empty g6]⟩, k _ F H s R (Same.refl F) h⟩
/-- own == e, own != e -/
@[simp] def wOwnEq (neg : Bool) (i : Nat) (we : DE) : DE := fun s Φ => ownAt s i fun _ => we s fun y s1 => ownAt s1 i fun xs => eqD (.list xs) y ∧ Φ (.bool (if neg then !PyData.eqv (.list xs) y else PyData.eqv (.list xs) y)) s1
theorem own_dp {K : PySem.W.Frag} {G F H : Hp} {P : Option Addr} {σ : L2.St} {s : S} {i : Nat} {xs : List PyData} {a : Addr} (R : Rep K G P F H σ s) (h0 : s.e[i]? = some (.o xs)) (ha : σ[i]? = some (some (.ref a))) (hd : (PyData.list xs).hasDict = false) : Dp K H (.ref a) (.list xs) := by
  obtain ⟨p, vs, g1, _, _, _, g5, g6⟩ := R.sl i _ h0
  rw [ha] at g1
  cases g1
  exact .lst (SqL.of g5) ((g6.mono R.same).dpUp _ _ (by simpa [PyData.hasDict] using hd))
theorem noDict {d : PyData} (h : SeqAt.shaped d = true) : d.hasDict = false := PyData.hasDict_of_canLay _ (SeqAt.canLay_of_shaped h)
theorem xe_ownEq {i : Nat} {x : Str} {xp : Pos} {b : Expr} {wb : DE} (hu : X.A.units + 64 < cLine) (hv : PE X (.Name x xp) (tVar i)) (hb : XE X b wb) (hm : behindInMarks .Eq b = false := by first | exact nobehind _ (by decide) (by decide) | rfl) :
    XE X (.Compare (.Name x xp) [.Eq] [b] pos) (wOwnEq false i wb) := pe_imp (pe_cmpR (op_eqD hu) hv hb hm) fun σ H Q h => by
  obtain ⟨G, P, F, s, Φ, R, h, k⟩ := h
  obtain ⟨xs0, h0, h⟩ := ownAt_of h
  obtain ⟨p, vs, g1, _, _, _, g5, g6⟩ := R.sl i _ h0
  refine ⟨_, g1, G, P, F, s, _, R, h, fun y F2 H2 s2 dy R2 e2 d2 q2 => ?_⟩
  obtain ⟨xs, h1, ⟨sh1, sh2⟩, q2⟩ := ownAt_of q2
  exact ⟨_, _, own_dp R2 h1 g1 (noDict sh1), (d2.mono R2.same).dp (noDict sh2), sh1, sh2, k _ F2 H2 s2 _ R2 e2 (.bl _) q2⟩
theorem xe_ownNe {i : Nat} {x : Str} {xp : Pos} {b : Expr} {wb : DE} (hu : X.A.units + 64 < cLine) (hv : PE X (.Name x xp) (tVar i)) (hb : XE X b wb) (hm : behindInMarks .NotEq b = false := by first | exact nobehind _ (by decide) (by decide) | rfl) :
    XE X (.Compare (.Name x xp) [.NotEq] [b] pos) (wOwnEq true i wb) := pe_imp (pe_cmpR (op_neD hu) hv hb hm) fun σ H Q h => by
  obtain ⟨G, P, F, s, Φ, R, h, k⟩ := h
  obtain ⟨xs0, h0, h⟩ := ownAt_of h
  obtain ⟨p, vs, g1, _, _, _, g5, g6⟩ := R.sl i _ h0
  refine ⟨_, g1, G, P, F, s, _, R, h, fun y F2 H2 s2 dy R2 e2 d2 q2 => ?_⟩
  obtain ⟨xs, h1, ⟨sh1, sh2⟩, q2⟩ := ownAt_of q2
  exact ⟨_, _, own_dp R2 h1 g1 (noDict sh1), (d2.mono R2.same).dp (noDict sh2), sh1, sh2, k _ F2 H2 s2 _ R2 e2 (.bl _) q2⟩
/-! calls that only look: one's own lists as arguments, a flat answer -/
def tAk (K : PySem.W.Frag) (w : DA) : TA := fun σ H Q => ∃ G P F s Φ, Rep K G P F H σ s ∧ w s Φ ∧ ∀ vs F' H' s' xs F2, Rep K G P F' H' σ s' → Same F F' → Same F' F2 → (Same F2 H' ∧ TabsF K F2 H' ∧ ∀ b o, F2 b = some o → F' b = some o ∨ ∃ xs, o = .lst xs) → DqA K F2 vs xs → Φ xs s' → Q vs H'
abbrev XAk (X : Cx) (es : List Expr) (w : DA) : Prop := PA X es (tAk X.K w)
variable {e : Expr} {es : List Expr}
theorem xk_nil : XAk X [] wNil := pa_imp pa_nil fun σ H Q h => by
  obtain ⟨G, P, F, s, Φ, R, h, k⟩ := h
  exact k [] F H s [] F R (Same.refl F) (Same.refl F) ⟨R.same, R.tabF, fun _ _ z => .inl z⟩ .nil h
theorem xk_cons {wa : DE} {wr : DA} (ha : XE X e wa) (hr : XAk X es wr) (hs : starEach (e :: es) X.env = (false, eval e X.env) :: starEach es X.env := by rfl) : XAk X (e :: es) (wCons wa wr) :=
  pa_imp (pa_cons ha hr hs) fun σ H Q h => by
    obtain ⟨G, P, F, s, Φ, R, h, k⟩ := h
    refine ⟨G, P, F, s, _, R, h, fun x F1 H1 s1 dx R1 e1 d1 h1 => ⟨G, P, F1, s1, _, R1, h1, fun xs F2 H2 s2 ds F3 R2 e2 e3 e4 d2 h2 => ?_⟩⟩
    exact k _ F2 H2 s2 _ F3 R2 (e1.trans e2) e3 e4 (.cons (d1.mono (e2.trans e3)) d2) h2
@[simp] def wConsO (i : Nat) (wr : DA) : DA := fun s Φ => ownAt s i fun xs => wr s fun ds s1 => s1.e[i]? = s.e[i]? ∧ Φ (.list xs :: ds) s1
theorem xk_own {i : Nat} {x : Str} {xp : Pos} {wr : DA} (hv : PE X (.Name x xp) (tVar i)) (hr : XAk X es wr) (hs : starEach (.Name x xp :: es) X.env = (false, eval (.Name x xp) X.env) :: starEach es X.env := by rfl) : XAk X (.Name x xp :: es) (wConsO i wr) :=
  pa_imp (pa_cons hv hr hs) fun σ H Q h => by
    obtain ⟨G, P, F, s, Φ, R, h, k⟩ := h
    obtain ⟨xs, h0, h⟩ := ownAt_of h
    obtain ⟨p, vs, g1, _⟩ := R.sl i _ h0
    refine ⟨_, g1, G, P, F, s, _, R, h, fun us F2 H2 s2 ds F3 R2 e2 e3 e4 d2 h2 => ?_⟩
    obtain ⟨es, h2⟩ := h2
    obtain ⟨p', vs', k1, _, _, _, k5, k6⟩ := R2.sl i _ (es.trans h0)
    rw [g1] at k1
    cases k1
    cases hp : F3 p with
    | none =>
      have e5 : Same F3 (upd F3 p (.lst vs')) := same_new hp
      have tF : TabsF X.K (upd F3 p (.lst vs')) H2 := ⟨fun b hb => ⟨by
        rw [upd_ne (fun z => by
          have q := (e4.2.1.gen b hb).2
          rw [z, k5] at q
          cases q)]
        exact (e4.2.1.gen b hb).1, (e4.2.1.gen b hb).2⟩, fun b hb => ⟨by
        rw [upd_ne (fun z => by
          obtain ⟨ps, q⟩ := (e4.2.1.lam b hb).2
          rw [z, k5] at q
          cases q)]
        exact (e4.2.1.lam b hb).1, (e4.2.1.lam b hb).2⟩, e4.2.1.tk.updF hp⟩
      refine k _ F2 H2 s2 _ (upd F3 p (.lst vs')) R2 e2 (e3.trans e5) ⟨fun b o q => ?_, tF, fun b o q => ?_⟩ (.cons (.lst upd_same (k6.mono (e3.trans e5))) (d2.mono e5)) h2
      · by_cases hb : b = p
        · rw [hb, upd_same] at q
          cases q
          rw [hb]
          exact k5
        · rw [upd_ne hb] at q
          exact e4.1 b o q
      · by_cases hb : b = p
        · rw [hb, upd_same] at q
          cases q
          exact .inr ⟨_, rfl⟩
        · rw [upd_ne hb] at q
          exact e4.2.2 b o q
    | some o =>
      have ho := e4.1 p o hp
      rw [k5] at ho
      cases ho
      exact k _ F2 H2 s2 _ F3 R2 e2 e3 e4 (.cons (.lst hp (k6.mono e3)) d2) h2
theorem flat_up {K : PySem.W.Frag} {F F' : Hp} {v : V} {d : PyData} (h : Dq K F v d) (f : flatD d = true) : Dq K F' v d := by
  cases h with
  | non => exact .non
  | bl b => exact .bl b
  | int i => exact .int i
  | str x => exact .str x
  | _ => cases f
/-- what was frozen, and the code objects of F' -/
def backF (F F' : Hp) : Hp := fun b => match F b with
  | some o => some o
  | none => match F' b with
    | some (.ext P) => some (.ext P)
    | _ => none
theorem Fresh.back {F F2 H F' H' : Hp} (fr : Fresh F2 H F' H') (e : Same F H) (e2 : Same F F2) (l : ∀ b o, F2 b = some o → F b = some o ∨ ∃ xs, o = .lst xs) : Fresh F H (backF F F') H' := by
  have inF : ∀ b o, backF F F' b = some o → F b = some o ∨ (F b = none ∧ F' b = some o ∧ ∃ P, o = .ext P) := fun b o q => by
    unfold backF at q
    cases hF : F b with
    | some u =>
      rw [hF] at q
      exact .inl q
    | none =>
      rw [hF] at q
      dsimp only at q
      split at q
      · rename_i P hP
        cases q
        exact .inr ⟨rfl, hP, P, rfl⟩
      · cases q
  have sF : Same F (backF F F') := fun b o q => by
    unfold backF
    rw [q]
  have lift : ∀ b P, F' b = some (.ext P) → backF F F' b = some (.ext P) := fun b P q => by
    unfold backF
    cases hF : F b with
    | some u =>
      have z := fr.ff b u (e2 b u hF)
      rw [q] at z
      cases z
      rfl
    | none =>
      dsimp only
      rw [q]
  refine ⟨sF, fun b o q => ?_, fr.hh, fun b o hb hF => ?_, fun t => ⟨fun b ps h => ?_, fun b o q => ?_⟩⟩
  · rcases inF b o q with z | ⟨_, z, _⟩
    · exact fr.fh b o (fr.ff b o (e2 b o z))
    · exact fr.fh b o z
  · cases hq : backF F F' b with
    | none => rfl
    | some u =>
      rcases inF b u hq with z | ⟨_, z, P, rfl⟩
      · rw [hF] at z
        cases z
      · cases h2 : F2 b with
        | none =>
          rw [fr.fr b o hb h2] at z
          cases z
        | some u2 =>
          rcases l b u2 h2 with k | ⟨xs, rfl⟩
          · rw [hF] at k
            cases k
          · rw [fr.ff b _ h2] at z
            cases z
  · have t2 : Tk F2 H := t.up e2 fun b o q => by
      rcases l b o q with z | ⟨xs, rfl⟩
      · exact t.2 b o z
      · rfl
    have k := (fr.tk t2).1 b ps h
    refine ⟨k.1, fun pos cv hc => ?_⟩
    obtain ⟨c, e1, e2⟩ := k.2 pos cv hc
    exact ⟨c, e1, lift _ _ e2⟩
  · rcases inF b o q with z | ⟨_, _, P, rfl⟩
    · exact t.2 b o z
    · rfl
@[simp] def wCallK (sp : DSp) (wa : DA) : DE := fun s Φ => wa s fun ds s1 => sp ds fun r => flatD r = true ∧ Φ r s1
theorem xe_callK {k : Nat} {f : Addr} {fd : FuncData} {ps : List Str} {x : Str} {p : Pos} {sp : DSp} {wa : DA} (F : FnG X.prog X.w X.K X.mg X.base CX0 k f fd ps (spD X.K sp)) (hgd : X.A.guards = some []) (hr : Room k X.A) (hg : Gl X x) (hm : X.mg x = some (.ref f)) (hk : PySem.W.keepIn X.K (.ref f) = true) (hb : Binds X.K fd ps [])
    (ha : XAk X (e :: es) wa) (hdb : (x == ("__debug__" : Str)) = false := by decide) (he : starEach (e :: es) X.env = (false, eval e X.env) :: starEach es X.env := by rfl) (hpl : (backTo pos (starEach es X.env)).any (·.1) = false := by rfl) :
    XE X (.Call (.Name x p) (e :: es) [] pos) (wCallK sp wa) := pe_imp (pe_callG F hgd hr hg hm hk hb .nil pass0 ha hdb he hpl) fun σ H Q h => by
  obtain ⟨G, P, F, s, Φ, R, h, kk⟩ := h
  refine ⟨G, P, F, s, _, R, h, fun vs F1 H1 s1 ds F2 R1 e1 e2 e3 d1 q => ?_⟩
  show spD X.K sp (vs ++ []) H1 Q E0
  rw [List.append_nil]
  refine ⟨F2, ds, _, ⟨e3.1, e3.2.1⟩, d1, q, fun v F' H' x fr dx qx => ?_⟩
  have f0 := fr.back R1.same e2 e3.2.2
  exact kk v _ H' s1 x (R1.fresh f0) (e1.trans f0.ff) (flat_up dx qx.1) qx.2
theorem c_callK {k kX : Nat} {x : Str} {ps : List Str} {p : Pos} {sp : DSp} {wa : DA} (C : Ca X.prog X.w X.K X.mg X.base k x ps (spD X.K sp)) (hgd : X.A.guards = some []) (hr : Room kX X.A) (hk : k ≤ kX) (hg : Gl X x) (ha : XAk X (e :: es) wa)
    (hdb : (x == ("__debug__" : Str)) = false := by decide) (he : starEach (e :: es) X.env = (false, eval e X.env) :: starEach es X.env := by rfl) (hpl : (backTo pos (starEach es X.env)).any (·.1) = false := by rfl) : XE X (.Call (.Name x p) (e :: es) [] pos) (wCallK sp wa) := by
  obtain ⟨f, fd, F, gm, kp, b⟩ := C.ex
  exact xe_callK F hgd (hr.mono hk) hg gm kp b ha hdb he hpl
/-- a new list, one of two -/
@[simp] def wIfL (t : DT) (w u : DA) : DA := fun s Φ => t s fun b s1 => if b = true then w s1 Φ else u s1 Φ
theorem xl_if {c a b : Expr} {t : DT} {w u : DA} (hc : XT X c t) (ha : XL X a w) (hb : XL X b u) : XL X (.IfExp c a b pos) (wIfL t w u) := pe_imp (pe_ifExp hc ha hb) fun σ H Q h => by
  obtain ⟨G, P, F, s, Φ, R, h, k⟩ := h
  refine ⟨G, P, F, s, _, R, h, fun b F1 H1 s1 R1 e1 h1 => ?_⟩
  cases b with
  | true =>
    rw [if_pos rfl] at h1 ⊢
    exact ⟨G, P, F1, s1, _, R1, h1, fun p vs F2 H2 s2 xs R2 e2 n hp d2 h2 => k p vs F2 H2 s2 xs R2 (e1.trans e2) n hp d2 h2⟩
  | false =>
    rw [if_neg Bool.false_ne_true] at h1 ⊢
    exact ⟨G, P, F1, s1, _, R1, h1, fun p vs F2 H2 s2 xs R2 e2 n hp d2 h2 => k p vs F2 H2 s2 xs R2 (e1.trans e2) n hp d2 h2⟩
/-! the same as tests -/
theorem xt_ownEq {i : Nat} {x : Str} {xp : Pos} {b : Expr} {wb : DE} (hu : X.A.units + 64 < cLine) (hv : PE X (.Name x xp) (tVar i)) (hb : XE X b wb) (hm : behindInMarks .Eq b = false := by first | exact nobehind _ (by decide) (by decide) | rfl) :
    XT X (.Compare (.Name x xp) [.Eq] [b] pos) (wTst (wOwnEq false i wb)) := pt_imp (pt_cmpR (op_eqD hu) hv hb hm) fun σ H Q h => by
  obtain ⟨G, P, F, s, Φ, R, h, k⟩ := tst_of σ H Q h
  obtain ⟨xs0, h0, h⟩ := ownAt_of h
  obtain ⟨p, vs, g1, _, _, _, g5, g6⟩ := R.sl i _ h0
  refine ⟨_, g1, G, P, F, s, _, R, h, fun y F2 H2 s2 dy R2 e2 d2 q2 => ?_⟩
  obtain ⟨xs, h1, ⟨sh1, sh2⟩, q2⟩ := ownAt_of q2
  exact ⟨_, _, own_dp R2 h1 g1 (noDict sh1), (d2.mono R2.same).dp (noDict sh2), sh1, sh2, k _ F2 H2 s2 _ R2 e2 (.bl _) q2⟩
theorem xt_ownNe {i : Nat} {x : Str} {xp : Pos} {b : Expr} {wb : DE} (hu : X.A.units + 64 < cLine) (hv : PE X (.Name x xp) (tVar i)) (hb : XE X b wb) (hm : behindInMarks .NotEq b = false := by first | exact nobehind _ (by decide) (by decide) | rfl) :
    XT X (.Compare (.Name x xp) [.NotEq] [b] pos) (wTst (wOwnEq true i wb)) := pt_imp (pt_cmpR (op_neD hu) hv hb hm) fun σ H Q h => by
  obtain ⟨G, P, F, s, Φ, R, h, k⟩ := tst_of σ H Q h
  obtain ⟨xs0, h0, h⟩ := ownAt_of h
  obtain ⟨p, vs, g1, _, _, _, g5, g6⟩ := R.sl i _ h0
  refine ⟨_, g1, G, P, F, s, _, R, h, fun y F2 H2 s2 dy R2 e2 d2 q2 => ?_⟩
  obtain ⟨xs, h1, ⟨sh1, sh2⟩, q2⟩ := ownAt_of q2
  exact ⟨_, _, own_dp R2 h1 g1 (noDict sh1), (d2.mono R2.same).dp (noDict sh2), sh1, sh2, k _ F2 H2 s2 _ R2 e2 (.bl _) q2⟩
theorem chain_of {K : PySem.W.Frag} {r r' : R2} {w w' : W2} {wa wb wc : DE} (O : Op2 K r w) (O' : Op2 K r' w') (σ : L2.St) (H : Hp) (Q : VK) (h : tE K (wChain w w' wa wb wc) σ H Q) : tChain r r' (tE K wa) (tE K wb) (tE K wc) σ H Q := by
  obtain ⟨G, P, F, s, Φ, R, h, k⟩ := h
  refine ⟨G, P, F, s, _, R, h, fun x F1 H1 s1 dx R1 e1 d1 q1 => ⟨G, P, F1, s1, _, R1, q1, fun y F2 H2 s2 dy R2 e2 d2 q2 => ?_⟩⟩
  refine O.run _ _ R2.same (d1.mono e2) d2 q2 fun z F3 H3 dz f dzz q3 => ?_
  have R3 := R2.fresh f
  cases dz with
  | bool t =>
    cases dzz
    refine ⟨t, rfl, ?_⟩
    cases t with
    | true =>
      dsimp only at q3
      rw [if_pos rfl] at q3 ⊢
      refine ⟨G, P, F3, s2, _, R3, q3, fun u F4 H4 s4 du R4 e4 d4 q4 => ?_⟩
      exact O'.run _ _ R4.same (d2.mono (f.ff.trans e4)) d4 q4 fun z2 F5 H5 d5 f5 dq5 q5 => k z2 F5 H5 s4 d5 (R4.fresh f5) ((((e1.trans e2).trans f.ff).trans e4).trans f5.ff) dq5 q5
    | false =>
      dsimp only at q3
      rw [if_neg Bool.false_ne_true] at q3 ⊢
      exact k _ F3 H3 s2 _ R3 ((e1.trans e2).trans f.ff) (.bl false) q3
  | _ => exact q3.elim
theorem xt_chain {a b c : Expr} {op op' : CmpOp} {r r' : R2} {w w' : W2} {wa wb wc : DE} (ho : OpR X (compareOp op) r) (O : Op2 X.K r w) (ho' : OpR X (compareOp op') r') (O' : Op2 X.K r' w') (ha : XE X a wa) (hb : XE X b wb) (hc : XE X c wc) (hm : lastMarks [op, op'] [b, c] = false := by with_unfolding_all rfl) :
    XT X (.Compare a [op, op'] [b, c] pos) (wTst (wChain w w' wa wb wc)) := pt_imp (pt_chain ho ho' ha hb hc hm) fun σ H Q h => chain_of O O' σ H _ (tst_of σ H Q h)
end
end DL
/-! DL: >= of pairs of ints -/
namespace DL
open PySem PySem.Spec PyProof.Rows L2
section
variable {X : Cx} {pos : Pos}
def rGePair (K : PySem.W.Frag) : R2 := fun x y H Q => ∃ (a b : Addr) (i j m n : Int), x = .ref a ∧ y = .ref b ∧ SqT K H a [.int i, .int j] ∧ SqT K H b [.int m, .int n] ∧ Q (.bl (if i = m then decide (n ≤ j) else decide (m ≤ i))) H
theorem beq_dec (c d : Int) : (c == d) = decide (c = d) := by
  by_cases z : c = d
  · rw [decide_eq_true z, z, beq_self_eq_true]
  · rw [decide_eq_false z, beq_eq_false_iff_ne.mpr z]
theorem lex_pair (i j m n : Int) : Ob.lexAt (fun c => if c = 0 then decide (i = m) else decide (j = n)) (fun c => if c = 0 then decide (m ≤ i) else decide (n ≤ j)) true 0 2 = if i = m then decide (n ≤ j) else decide (m ≤ i) := by
  rw [Ob.lexAt_succ, Ob.lexAt_succ, Ob.lexAt_zero]
  by_cases z : i = m
  · rw [if_pos z]
    by_cases z2 : j = n
    · simp [z, z2]
    · simp [z, z2]
  · rw [if_neg z]
    simp [z]
theorem opr_gePair (hu : X.A.units < cLine) : OpR X (compareOp .GtE) (rGePair X.K) := by
  intro pins s σ H x y v u Q I rx ry h
  obtain ⟨a, b, i, j, m, n, hx, hy, ha, hb, q⟩ := h
  subst hx
  subst hy
  have ev : v = Value.ref a := rx
  have eu : u = Value.ref b := ry
  subst ev
  subst eu
  obtain ⟨is, r1, t1, _⟩ := I.tuple ha
  obtain ⟨js, r2, t2, _⟩ := I.tuple hb
  obtain ⟨v1, v2, e1, q1, q2⟩ := Vals.two r1
  obtain ⟨u1, u2, e2, q3, q4⟩ := Vals.two r2
  subst e1
  subst e2
  obtain ⟨k1, rfl⟩ := q1
  obtain ⟨k2, rfl⟩ := q2
  obtain ⟨k3, rfl⟩ := q3
  obtain ⟨k4, rfl⟩ := q4
  have key := Ob.RcOp.tuples_ge (A := X.A) (s := s) (e := fun c => if c = 0 then decide (i = m) else decide (j = n)) (r := fun c => if c = 0 then decide (m ≤ i) else decide (n ≤ j)) t1 t2 hu (fun c h1 h2 => by
    have hc : c = 0 ∨ c = 1 := by
      have h3 : c < 2 := h1
      omega
    rcases hc with rfl | rfl
    · show SeqAt.EqAt _ _ (Value.int i k1) (Value.int m k3) (decide (i = m))
      rw [← beq_dec]
      exact SeqAt.EqAt.int_int _ _ _ _
    · show SeqAt.EqAt _ _ (Value.int j k2) (Value.int n k4) (decide (j = n))
      rw [← beq_dec]
      exact SeqAt.EqAt.int_int _ _ _ _) (fun c h1 h2 _ => by
    have hc : c = 0 ∨ c = 1 := by
      have h3 : c < 2 := h1
      omega
    rcases hc with rfl | rfl
    · exact Ob.RcOp.ge_int i m k1 k3
    · exact Ob.RcOp.ge_int j n k2 k4)
  have key2 := key X.prog X.w X.xe (EP X pins σ Q)
  have e5 : Ob.lexAt (fun c => if c = 0 then decide (i = m) else decide (j = n)) (fun c => if c = 0 then decide (m ≤ i) else decide (n ≤ j)) (decide ((#[Value.int i k1, Value.int j k2] : Array Value).size ≥ (#[Value.int m k3, Value.int n k4] : Array Value).size)) 0 (min (#[Value.int i k1, Value.int j k2] : Array Value).size (#[Value.int m k3, Value.int n k4] : Array Value).size) = if i = m then decide (n ≤ j) else decide (m ≤ i) := lex_pair i j m n
  rw [e5] at key2
  exact key2 ⟨.bl _, H, I, rfl, q⟩
@[simp] def wGePair : W2 := fun x y Φ => ∃ i j m n : Int, x = .tuple [.int i, .int j] ∧ y = .tuple [.int m, .int n] ∧ Φ (.bool (if i = m then decide (n ≤ j) else decide (m ≤ i)))
theorem o_gePair {K : PySem.W.Frag} : Op2 K (rGePair K) wGePair := ⟨fun {F H x y dx dy} Q Φ s d1 d2 w k => by
  obtain ⟨i, j, m, n, rfl, rfl, w⟩ := w
  cases d1 with
  | tup h1 h2 =>
    cases d2 with
    | tup h3 h4 =>
      obtain ⟨v1, v2, rfl, a1, a2⟩ := dqa2 h2
      obtain ⟨u1, u2, rfl, b1, b2⟩ := dqa2 h4
      cases a1
      cases a2
      cases b1
      cases b2
      exact ⟨_, _, _, _, _, _, rfl, rfl, same_sqt s h1, same_sqt s h3, k _ F H _ (Fresh.refl s) (.bl _) w⟩⟩
end
end DL
/-! DL: general lemmas for laws -/
namespace DL
open PySem PySem.Spec PyProof.Rows L2
theorem emod_le' {a m : Int} (h : 0 ≤ a) (hm : 0 < m) : a % m ≤ a := by
  have e := Int.mul_ediv_add_emod a m
  have q : 0 ≤ a / m := Int.ediv_nonneg h (by omega)
  have q2 : 0 ≤ m * (a / m) := Int.mul_nonneg (by omega) q
  omega
theorem take_snoc {α : Type} {xs : List α} {i : Nat} {x : α} (h : xs[i]? = some x) : xs.take (i + 1) = xs.take i ++ [x] := by
  rw [List.take_add_one, h]
  rfl
theorem cutD_1 (x : PyData) (xs : List PyData) (hl : xs.length ≤ 1000000): DL.cutD (x :: xs) (some 1) none = xs := by
  have e : min 1 (xs.length + 1) = 1 := by omega
  simp [DL.cutD, HT.sIx, e]
theorem mem_signs {z : Str} {c : Nat} : inF (.str ⟨#[c]⟩) (signsOf z) = true ↔ c ∈ z.cps.toList := by
  unfold inF signsOf
  rw [List.any_eq_true]
  constructor
  · rintro ⟨y, hy, h⟩
    obtain ⟨d, hd, rfl⟩ := List.mem_map.mp hy
    have : (⟨#[d]⟩ : Str) = ⟨#[c]⟩ := by simpa [eqF] using h
    cases this
    exact hd
  · intro h
    exact ⟨_, List.mem_map.mpr ⟨c, h, rfl⟩, by simp [eqF]⟩
theorem not_mem_signs {z : Str} {s : Str} (h : ∀ c, s ≠ ⟨#[c]⟩) : inF (.str s) (signsOf z) = false := by
  unfold inF signsOf
  rw [List.any_eq_false]
  intro y hy
  obtain ⟨d, hd, rfl⟩ := List.mem_map.mp hy
  intro e
  exact h d (by simpa [eqF] using e : (⟨#[d]⟩ : Str) = s).symm
theorem signs_flat (z : Str) : (signsOf z).all flatD = true := by
  unfold signsOf
  rw [List.all_map]
  exact List.all_eq_true.mpr fun x _ => rfl
theorem sIx_in {n d : Nat} {v : Int} (h0 : 0 ≤ v) (h1 : v ≤ n) : HT.sIx n d (some v) = v.toNat := by
  unfold HT.sIx
  simp only
  rw [if_neg (by omega)]
  omega
theorem sIx_over {n d : Nat} {v : Int} (h0 : 0 ≤ v) (h1 : n ≤ v) : HT.sIx n d (some v) = n := by
  unfold HT.sIx
  simp only
  rw [if_neg (by omega)]
  omega
theorem slice_sign {w : Str} {i : Nat} (h : i < w.length) : cutS w (some (i : Int)) (some ((i : Int) + 1)) = ⟨#[w.cps[i]'h]⟩ := by
  unfold cutS
  rw [sIx_in (n := w.length) (by omega) (by omega), sIx_in (n := w.length) (by omega) (by omega)]
  have e1 : ((i : Int) + 1).toNat - (i : Int).toNat = 1 := by omega
  have e2 : (i : Int).toNat = i := by omega
  have hl : i < w.cps.toList.length := by rw [Array.length_toList]; exact h
  rw [e1, e2, List.drop_eq_getElem_cons hl]
  simp
  rfl
theorem slice_end {w : Str} : cutS w (some (w.length : Int)) (some ((w.length : Int) + 1)) = ⟨#[]⟩ := by
  unfold cutS
  rw [sIx_in (n := w.length) (v := (w.length : Int)) (by omega) (by omega), sIx_over (n := w.length) (by omega) (by omega)]
  simp
theorem lc_mapl {α : Type} {vs : List Nat} {e0 : List Sl} {wg : DG} {we : DE} {Φ : List PyData → List Int → Prop} (l : List α) (F G : α → PyData) {q : List Int} (hl : l.length ≤ 16777216)
    (hs : ∀ a, a ∈ l → ∀ Θ : S → PyData → S → Prop, (∀ s1 s3, s3.e = s1.e → s3.q = q → Θ s1 (G a) s3) → wg (F a) ⟨wipeE e0 vs, q⟩ fun s1 => wipeE s1.e vs = wipeE e0 vs ∧ we s1 (Θ s1))
    (hd : Φ (l.map G) q) : lcW vs e0 wg wYes we Φ (l.map F) [] q := by
  refine lc_inv (l.map F) (fun pre acc q' => acc = (l.take pre.length).map G ∧ q' = q) ⟨rfl, rfl⟩ (fun pre x post acc q' e h Ψ k => ?_) (fun acc q' h => by rw [h.1, h.2, List.length_map, List.take_length]; exact hd)
  obtain ⟨rfl, rfl⟩ := h
  have hx : (l.map F)[pre.length]? = some x := by rw [e]; simp
  rw [List.getElem?_map] at hx
  cases ha : l[pre.length]? with
  | none =>
    rw [ha] at hx
    cases hx
  | some a =>
    rw [ha] at hx
    cases hx
    have hlen : ((l.take pre.length).map G).length < sizeLine := sz_lt (by
      have := (List.getElem?_eq_some_iff.mp ha).1
      rw [List.length_map, List.length_take]
      omega)
    have r := hs a (List.mem_of_getElem? ha) (fun s1 y s3 => s3.e = s1.e ∧ ((l.take pre.length).map G).length < sizeLine ∧ Ψ ((l.take pre.length).map G ++ [y]) s3.q)
      (fun s1 s3 h1 h2 => ⟨h1, hlen, k _ _ ⟨by rw [List.length_append, List.length_singleton, take_snoc ha, List.map_append]; rfl, h2⟩⟩)
    simp only [wYes, true_and, if_true]
    exact r
theorem lc_filt {vs : List Nat} {e0 : List Sl} {wg : DG} {wt : DT} {we : DE} {Φ : List PyData → List Int → Prop} {lo : Int} {n : Nat} (p : Nat → Bool) (F : Nat → PyData) {q : List Int} (hl : n ≤ 16777216)
    (hs : ∀ i, i < n → ∀ (Y : S → PyData → S → Prop) (N : S → Prop), (p i = true → ∀ s1 s3, s3.e = s1.e → s3.q = q → Y s1 (F i) s3) → (p i = false → ∀ s2, s2.q = q → N s2) →
      wg (.int (lo + (i : Int))) ⟨wipeE e0 vs, q⟩ fun s1 => wipeE s1.e vs = wipeE e0 vs ∧ wt s1 fun b s2 => s2.e = s1.e ∧ if b = true then we s2 (Y s1) else N s2)
    (hd : Φ (((List.range n).filter p).map F) q) : lcW vs e0 wg wt we Φ (rangeD lo n) [] q := by
  refine lc_inv (rangeD lo n) (fun pre acc q' => acc = ((List.range pre.length).filter p).map F ∧ q' = q) ⟨rfl, rfl⟩ (fun pre x post acc q' e h Ψ k => ?_) (fun acc q' h => by rw [h.1, h.2, rangeD_len]; exact hd)
  obtain ⟨rfl, rfl⟩ := h
  have hx : (rangeD lo n)[pre.length]? = some x := by rw [e]; simp
  obtain ⟨hi, rfl⟩ := rangeD_get hx
  have hlen : (((List.range pre.length).filter p).map F).length < sizeLine := sz_lt (by
    have := List.length_filter_le p (List.range pre.length)
    rw [List.length_map]
    rw [List.length_range] at this
    omega)
  refine hs pre.length hi (fun s1 y s3 => s3.e = s1.e ∧ (((List.range pre.length).filter p).map F).length < sizeLine ∧ Ψ (((List.range pre.length).filter p).map F ++ [y]) s3.q) (fun s2 => Ψ (((List.range pre.length).filter p).map F) s2.q)
    (fun hp s1 s3 h1 h2 => ⟨h1, hlen, k _ _ ⟨?_, h2⟩⟩) (fun hp s2 h2 => k _ _ ⟨?_, h2⟩)
  · rw [List.length_append, List.length_singleton, List.range_succ, List.filter_append, List.map_append]
    simp [hp]
  · rw [List.length_append, List.length_singleton, List.range_succ, List.filter_append, List.map_append]
    simp [hp]
/-! sums -/
theorem sum_filter {α : Type} (p : α → Bool) (f : α → Nat) : ∀ l : List α, (∀ a, a ∈ l → p a = false → f a = 0) → ((l.filter p).map f).sum = (l.map f).sum
  | [], _ => rfl
  | a :: l, h => by
    have ih := sum_filter p f l fun b hb => h b (List.mem_cons_of_mem _ hb)
    cases hp : p a
    · rw [List.filter_cons_of_neg (by simp [hp]), ih, List.map_cons, List.sum_cons, h a List.mem_cons_self hp, Nat.zero_add]
    · rw [List.filter_cons_of_pos hp, List.map_cons, List.sum_cons, ih, List.map_cons, List.sum_cons]
def sumN (n : Nat) (f : Nat → Nat) : Nat := ((List.range n).map f).sum
theorem sumN_succ (n : Nat) (f : Nat → Nat) : sumN (n + 1) f = sumN n f + f n := by
  unfold sumN
  rw [List.range_succ, List.map_append, List.sum_append]
  simp
theorem sumN_zero {f : Nat → Nat} : ∀ {n : Nat}, sumN n f ≠ 0 ↔ ∃ i, i < n ∧ f i ≠ 0
  | 0 => ⟨fun h => absurd rfl h, fun ⟨i, h, _⟩ => by omega⟩
  | n + 1 => by
    rw [sumN_succ]
    constructor
    · intro h
      by_cases h0 : f n = 0
      · obtain ⟨i, h1, h2⟩ := sumN_zero.mp (show sumN n f ≠ 0 by omega)
        exact ⟨i, by omega, h2⟩
      · exact ⟨n, by omega, h0⟩
    · rintro ⟨i, h1, h2⟩
      by_cases h0 : i = n
      · subst h0
        omega
      · have := sumN_zero.mpr ⟨i, show i < n by omega, h2⟩
        omega
theorem succ_le_pow (L : Nat) : L + 1 ≤ 2 ^ L := Nat.lt_two_pow_self
theorem sum_cast {α : Type} (f : α → Nat) (l : List α) : (l.map fun a => ((f a : Nat) : Int)).sum = ((l.map f).sum : Nat) := by
  induction l with
  | nil => rfl
  | cons a l ih => rw [List.map_cons, List.sum_cons, ih, List.map_cons, List.sum_cons, Int.natCast_add]
def delta (b e : Nat) : Nat := if b = e then 1 else 0
theorem delta_int (b e : Nat) : (if (b : Int) = (e : Int) then (1 : Int) else 0) = ((delta b e : Nat) : Int) := by
  unfold delta
  by_cases h : b = e
  · rw [if_pos h, if_pos (by omega)]
    rfl
  · rw [if_neg h, if_neg (by omega)]
    rfl
theorem pick_go {m : Int} {q : List Int} {Φ : PyData → List Int → Prop} (hm : 0 < m) (hq : PoolOk q) (h : ∀ (n : Nat) q', PoolOk q' → (n : Int) < m → n < 60 → Φ (.int (n : Nat)) q') : sp_pick [.int m] q Φ :=
  ⟨m, rfl, hm, hq, fun n q' hq' h0 h1 h2 => by
    obtain ⟨k, rfl⟩ := Int.eq_ofNat_of_zero_le h0
    exact h k q' hq' h1 (by omega)⟩
theorem join_foldl (acc : Array Nat) : ∀ zs : List Str, (zs.foldl (fun acc p => acc ++ (#[] : Array Nat) ++ p.cps) acc).toList = acc.toList ++ (zs.map fun z => z.cps.toList).flatten
  | [] => by simp
  | z :: zs => by
    rw [List.foldl_cons, join_foldl _ zs]
    simp
theorem join_cps (zs : List Str) : (Txt.join (Str.ofString "") zs).cps.toList = (zs.map fun z => z.cps.toList).flatten := by
  have e : (Str.ofString "").cps = #[] := by decide +kernel
  show (List.foldl (fun acc p => acc ++ (Str.ofString "").cps ++ p.cps) (zs.headD Str.empty).cps (zs.drop 1)).toList = _
  rw [e, join_foldl]
  cases zs with
  | nil => rfl
  | cons z zs => rfl
theorem join_len (zs : List Str) : (Txt.join (Str.ofString "") zs).length = (zs.map fun z => z.length).sum := by
  have h := congrArg List.length (join_cps zs)
  rw [Array.length_toList, List.length_flatten, List.map_map] at h
  rw [show (Txt.join (Str.ofString "") zs).length = (Txt.join (Str.ofString "") zs).cps.size from rfl, h]
  congr 1
theorem empty_len : (Str.ofString "").length = 0 := by decide +kernel
def sg (c : Nat) : Str := ⟨#[c]⟩
theorem sg_len (c : Nat) : (sg c).length = 1 := rfl
theorem sum_le {l : List Nat} {m : Nat} (h : ∀ a, a ∈ l → a ≤ m) : l.sum ≤ l.length * m := by
  induction l with
  | nil => exact Nat.zero_le _
  | cons a l ih =>
    rw [List.sum_cons, List.length_cons, Nat.succ_mul]
    have h1 := h a List.mem_cons_self
    have h2 := ih fun b hb => h b (List.mem_cons_of_mem _ hb)
    omega
theorem join_signs (cs : List Nat) : (Txt.join (Str.ofString "") (cs.map sg)).cps.toList = cs := by
  rw [join_cps, List.map_map]
  induction cs with
  | nil => rfl
  | cons c cs ih =>
    rw [List.map_cons, List.flatten_cons, ih]
    rfl
theorem str_at {z : Str} {n : Nat} (h : n < z.length) : atI z.cps.toList (n : Int) = some (z.cps[n]'h) := by
  rw [DL.atI_nat (by rw [Array.length_toList]; exact h), Array.getElem?_toList]
  exact Array.getElem?_eq_getElem h
theorem str_mem {z : Str} {n : Nat} (h : n < z.length) : z.cps[n]'h ∈ z.cps.toList := by
  rw [Array.mem_toList_iff]
  exact Array.getElem_mem h
theorem lay_signs : ∀ cs : List Nat, (∀ c, c ∈ cs → c < 1114112) → PyData.canLayAll0 (cs.map fun c => PyData.str (sg c)) = true
  | [], _ => rfl
  | c :: cs, h => by
    rw [List.map_cons]
    show (PyData.canLay0 (.str (sg c)) && PyData.canLayAll0 _) = true
    rw [lay_signs cs fun d hd => h d (List.mem_cons_of_mem _ hd), Bool.and_true]
    have := h c List.mem_cons_self
    simp [PyData.canLay0, PyData.strOk, sg]
    exact this
theorem depth_strs : ∀ zs : List Str, PyData.depthAll (zs.map PyData.str) ≤ 1
  | [] => by simp [PyData.depthAll]
  | z :: zs => by
    have := depth_strs zs
    rw [List.map_cons]
    simp only [PyData.depthAll, PyData.depth]
    omega
theorem shaped_signs (cs : List Nat) (h : ∀ c, c ∈ cs → c < 1114112) : SeqAt.shaped (.list (cs.map fun c => PyData.str (sg c))) = true := by
  unfold SeqAt.shaped
  have h1 : PyData.canLay0 (.list (cs.map fun c => PyData.str (sg c))) = true := lay_signs cs h
  rw [h1, Bool.true_and, decide_eq_true_eq]
  have h2 := depth_strs (cs.map sg)
  rw [List.map_map] at h2
  have h3 : (PyData.list (cs.map fun c => PyData.str (sg c))).depth ≤ 1 + PyData.depthAll (cs.map fun c => PyData.str (sg c)) := by
    simp only [PyData.depth]
    omega
  exact Nat.le_trans h3 (Nat.le_trans (Nat.add_le_add_left h2 1) (by decide))
theorem cutS_to {w : Str} {v : Int} (h : 0 ≤ v) : (cutS w none (some v)).length = min v.toNat w.length := by
  unfold cutS HT.sIx
  simp only
  rw [if_neg (by omega)]
  show (List.take _ (List.drop 0 w.cps.toList)).toArray.size = _
  rw [List.size_toArray, List.drop_zero, List.length_take, Array.length_toList]
  show min (min v.toNat w.length - 0) w.length = _
  omega
theorem cutS_from {w : Str} {v : Int} (h : 0 ≤ v) : (cutS w (some v) none).length = w.length - min v.toNat w.length := by
  unfold cutS HT.sIx
  simp only
  rw [if_neg (by omega)]
  show (List.take _ (List.drop _ w.cps.toList)).toArray.size = _
  rw [List.size_toArray, List.length_take, List.length_drop, Array.length_toList]
  show min (w.length - min v.toNat w.length) (w.length - min v.toNat w.length) = _
  omega
theorem abc_cps : (Str.ofString "abcdefghijklmnopqrstuvwxyz").cps.toList = (List.range 26).map fun t => 97 + t := by decide +kernel
theorem abc_at {t : Nat} (h : t < 26) : atI (Str.ofString "abcdefghijklmnopqrstuvwxyz").cps.toList (t : Int) = some (97 + t) := by
  rw [abc_cps, DL.atI_nat (by rw [List.length_map, List.length_range]; exact h), List.getElem?_map, List.getElem?_range h]
  rfl
theorem odd_at {i : Nat} (h : i < 6) : atI [PyData.int 1, .int 3, .int 5, .int 7, .int 9, .int 11] (i : Int) = some (.int ((2 * i + 1 : Nat) : Int)) := by
  rw [DL.atI_nat (by simpa using h)]
  have h6 : i = 0 ∨ i = 1 ∨ i = 2 ∨ i = 3 ∨ i = 4 ∨ i = 5 := by omega
  rcases h6 with rfl | rfl | rfl | rfl | rfl | rfl <;> rfl
structure Shw (s p : Nat) (x : PyData) : Prop where
  ok : x.showable = true
  nd : x.hasDict = false
  dp : x.depth ≤ p
  le : x.shown.length ≤ s
structure ShwA (s p : Nat) (xs : List PyData) : Prop where
  ok : PyData.showableAll xs = true
  nd : PyData.hasDictAll xs = false
  dp : PyData.depthAll xs ≤ p
  le : piled (PyData.shownAll xs) ≤ s
theorem shwA_nil (p : Nat) : ShwA 0 p [] := ⟨rfl, rfl, Nat.zero_le _, Nat.le_refl _⟩
theorem shwA_cons {s t p : Nat} {x : PyData} {xs : List PyData} (h : Shw s p x) (g : ShwA t p xs) : ShwA (s + 2 + t) p (x :: xs) where
  ok := by
    show (x.showable && PyData.showableAll xs) = true
    rw [h.ok, g.ok]
    rfl
  nd := by
    show (x.hasDict || PyData.hasDictAll xs) = false
    rw [h.nd, g.nd]
    rfl
  dp := Nat.max_le.mpr ⟨h.dp, g.dp⟩
  le := by
    show piled (x.shown :: PyData.shownAll xs) ≤ _
    rw [piled_cons]
    have := h.le
    have := g.le
    omega
theorem shwA_all {s p : Nat} : ∀ {xs : List PyData}, (∀ x, x ∈ xs → Shw s p x) → ShwA (xs.length * (s + 2)) p xs
  | [], _ => by
    rw [List.length_nil, Nat.zero_mul]
    exact shwA_nil p
  | x :: xs, h => by
    rw [List.length_cons, Nat.succ_mul, Nat.add_comm]
    exact shwA_cons (h x List.mem_cons_self) (shwA_all fun y hy => h y (List.mem_cons_of_mem _ hy))
theorem shw_mono {s t p r : Nat} {x : PyData} (h : Shw s p x) (a : s ≤ t) (b : p ≤ r) : Shw t r x := ⟨h.ok, h.nd, Nat.le_trans h.dp b, Nat.le_trans h.le a⟩
theorem shw_list {s p : Nat} {xs : List PyData} (h : ShwA s p xs) : Shw (s + 2) (p + 1) (.list xs) where
  ok := h.ok
  nd := h.nd
  dp := Nat.succ_le_succ h.dp
  le := by
    show (textFrom 0 "[" (PyData.shownAll xs) ++ ("]" : Str)).length ≤ _
    rw [Str.length_append]
    have h1 := textFrom_len_le (PyData.shownAll xs) 0 "["
    have h2 := h.le
    have h3 : piled (PyData.shownAll xs) = ((PyData.shownAll xs).map (·.length)).sum + 2 * (PyData.shownAll xs).length := by
      unfold piled
      induction PyData.shownAll xs with
      | nil => rfl
      | cons a l ih =>
        rw [List.map_cons, List.sum_cons, ih, List.map_cons, List.sum_cons, List.length_cons]
        omega
    have h4 : ("[" : Str).length = 1 := by decide +kernel
    have h5 : ("]" : Str).length = 1 := by decide +kernel
    omega
theorem shw_tuple {s p : Nat} {x : PyData} {xs : List PyData} (h : ShwA s p (x :: xs)) : Shw (s + 1) (p + 1) (.tuple (x :: xs)) where
  ok := h.ok
  nd := h.nd
  dp := Nat.succ_le_succ h.dp
  le := by
    show (("(" : Str) ++ Str.join ", " (PyData.shownAll (x :: xs)) ++ ((if (PyData.shownAll (x :: xs)).length == 1 then ",)" else ")" : String) : Str)).length ≤ _
    rw [Str.length_append, Str.length_append]
    have h1 := join_length_add (PyData.shownAll (x :: xs)) (by
      show x.shown :: PyData.shownAll xs ≠ []
      simp)
    have h2 := h.le
    have h4 : ("(" : Str).length = 1 := by decide +kernel
    have h5 : ((if (PyData.shownAll (x :: xs)).length == 1 then ",)" else ")" : String) : Str).length ≤ 2 := by
      split <;> decide +kernel
    omega
theorem shw_str {z : Str} (h : ∀ c, c ∈ z.cps.toList → c < 1114112) : Shw (10 * z.length + 2) 0 (.str z) := ⟨rfl, rfl, Nat.le_refl _, StrLaws.reprText_len z fun c hc => Nat.lt_trans (h c hc) (by decide)⟩
theorem shw_none : Shw 4 0 .none := ⟨rfl, rfl, Nat.le_refl _, by decide +kernel⟩
theorem shw_small {n : Nat} (h : n ≤ 8) : Shw 4 0 (.int (n : Nat)) := by
  have hc : n = 0 ∨ n = 1 ∨ n = 2 ∨ n = 3 ∨ n = 4 ∨ n = 5 ∨ n = 6 ∨ n = 7 ∨ n = 8 := by omega
  rcases hc with rfl | rfl | rfl | rfl | rfl | rfl | rfl | rfl | rfl
  all_goals exact ⟨by decide +kernel, rfl, Nat.le_refl _, by decide +kernel⟩
theorem shw_up {s p q : Nat} {x : PyData} (h : Shw s p x) (a : p ≤ q) : Shw s q x := shw_mono h (Nat.le_refl _) a
theorem cutD_mem {xs : List PyData} {l u : Option Int} {y : PyData} (h : y ∈ DL.cutD xs l u) : y ∈ xs := List.mem_of_mem_drop (List.mem_of_mem_take h)
theorem cutD_len (xs : List PyData) (l u : Option Int) : (DL.cutD xs l u).length ≤ xs.length := by
  unfold DL.cutD
  rw [List.length_take, List.length_drop]
  omega
theorem lc_pred {P : PyData → Prop} {m : Nat} {vs : List Nat} {e0 : List Sl} {wg : DG} {we : DE} {Φ : List PyData → List Int → Prop} {q : List Int} (xs : List PyData) (hq : PoolOk q) (hm : xs.length ≤ m) (hm2 : m ≤ 10000)
    (hs : ∀ x q, x ∈ xs → PoolOk q → ∀ Θ : S → PyData → S → Prop, (∀ s1 y s3, s3.e = s1.e → PoolOk s3.q → P y → Θ s1 y s3) → wg x ⟨wipeE e0 vs, q⟩ fun s1 => wipeE s1.e vs = wipeE e0 vs ∧ we s1 (Θ s1))
    (hd : ∀ ys q, PoolOk q → ys.length ≤ m → (∀ y, y ∈ ys → P y) → Φ ys q) : lcW vs e0 wg wYes we Φ xs [] q := by
  refine lc_inv xs (fun pre acc q' => PoolOk q' ∧ acc.length = pre.length ∧ ∀ y, y ∈ acc → P y) ⟨hq, rfl, by simp⟩ (fun pre x post acc q' e h Ψ k => ?_) (fun acc q' h => hd acc q' h.1 (by omega) h.2.2)
  obtain ⟨hq', hl, hp⟩ := h
  have hlen : acc.length < sizeLine := sz_lt (by
    rw [e] at hm
    simp at hm
    omega)
  have r := hs x q' (by rw [e]; simp) hq' (fun s1 y s3 => s3.e = s1.e ∧ acc.length < sizeLine ∧ Ψ (acc ++ [y]) s3.q) (fun s1 y s3 h1 h2 h3 => ⟨h1, hlen, k _ _ ⟨h2, by simp [hl], fun u hu => by
    rcases List.mem_append.mp hu with hu | hu
    · exact hp u hu
    · rw [List.mem_singleton.mp hu]
      exact h3⟩⟩)
  simp only [wYes, true_and, if_true]
  exact r
end DL
/-! machines as data, numbers of words -/
namespace DL
open PySem PySem.Spec PyProof.Rows L2
def mkL (n : Nat) (f : Nat → PyData) : List PyData := (List.range n).map f
theorem mkL_len (n : Nat) (f : Nat → PyData) : (mkL n f).length = n := by
  unfold mkL
  rw [List.length_map, List.length_range]
theorem mkL_get {n : Nat} {f : Nat → PyData} {i : Nat} (h : i < n) : (mkL n f)[i]? = some (f i) := by
  unfold mkL
  rw [List.getElem?_map, List.getElem?_range h]
  rfl
theorem atI_mkL {n : Nat} {f : Nat → PyData} {i : Nat} (h : i < n) : atI (mkL n f) (i : Int) = some (f i) := by
  rw [atI_nat (by rw [mkL_len]; exact h), mkL_get h]
theorem mkL_congr {n : Nat} {f g : Nat → PyData} (h : ∀ i, i < n → f i = g i) : mkL n f = mkL n g := by
  unfold mkL
  exact List.map_congr_left fun i hi => h i (List.mem_range.mp hi)
theorem mkL_app (n : Nat) (f : Nat → PyData) : mkL n f ++ [f n] = mkL (n + 1) f := by
  unfold mkL
  rw [List.range_succ, List.map_append]
  rfl
theorem mkL_mem {n : Nat} {f : Nat → PyData} {x : PyData} (h : x ∈ mkL n f) : ∃ i, i < n ∧ x = f i := by
  unfold mkL at h
  obtain ⟨i, hi, rfl⟩ := List.mem_map.mp h
  exact ⟨i, List.mem_range.mp hi, rfl⟩
theorem atI_end {α : Type} (xs : List α) (x : α) : atI (xs ++ [x]) (-1) = some x := by
  unfold atI ixN
  rw [if_neg (by omega), if_pos (by simp; omega)]
  show (xs ++ [x])[(-1 + ((xs ++ [x]).length : Int)).toNat]? = some x
  have e : (-1 + ((xs ++ [x]).length : Int)).toNat = xs.length := by simp; omega
  rw [e]
  simp
abbrev mkB (n : Nat) (E : Nat → Bool) : List PyData := mkL n fun i => .bool (E i)
abbrev mkM (n m : Nat) (g : Nat → Nat → Nat) : List PyData := mkL n fun b => .list (mkI m (g b))
theorem mkI_L (n : Nat) (f : Nat → Nat) : mkI n f = mkL n fun i => .int (f i : Nat) := rfl
/-- a list of things of one kind is a map of places -/
theorem mkL_of {α : Type} [Inhabited α] {c : α → PyData} {Q : α → Prop} : ∀ {xs : List PyData}, (∀ x, x ∈ xs → ∃ v, Q v ∧ x = c v) → ∃ f : Nat → α, xs = mkL xs.length (fun i => c (f i)) ∧ ∀ i, i < xs.length → Q (f i) := fun {xs} h => by
  classical
  have h2 : ∀ i, i < xs.length → ∃ v, Q v ∧ xs[i]? = some (c v) := fun i hi => by
    obtain ⟨v, q, e⟩ := h xs[i] (List.getElem_mem hi)
    exact ⟨v, q, by rw [List.getElem?_eq_getElem hi, e]⟩
  refine ⟨fun i => if hi : i < xs.length then (h2 i hi).choose else default, ?_, fun i hi => ?_⟩
  · apply List.ext_getElem?
    intro i
    by_cases hi : i < xs.length
    · rw [mkL_get hi]
      show xs[i]? = some (c (if hi : i < xs.length then (h2 i hi).choose else default))
      rw [dif_pos hi]
      exact (h2 i hi).choose_spec.2
    · rw [List.getElem?_eq_none (by omega), List.getElem?_eq_none (by rw [mkL_len]; omega)]
  · show Q (if hi : i < xs.length then (h2 i hi).choose else default)
    rw [dif_pos hi]
    exact (h2 i hi).choose_spec.1
structure MachOk (L n : Nat) (T : Nat → Nat → Nat) : Prop where
  pos : 1 ≤ n
  lt : ∀ s a, s < n → a < L → T s a < n
abbrev machD (L n : Nat) (T : Nat → Nat → Nat) (E : Nat → Bool) : PyData := .tuple [.list (mkM n L T), .list (mkB n E)]
/-- rows of numbers are a table -/
theorem mkM_of {L m : Nat} {xs : List PyData} (h : ∀ x, x ∈ xs → ∃ f : Nat → Nat, (∀ a, a < L → f a < m) ∧ x = .list (mkI L f)) : ∃ T : Nat → Nat → Nat, xs = mkM xs.length L T ∧ ∀ s a, s < xs.length → a < L → T s a < m := by
  obtain ⟨T, e, q⟩ := mkL_of (c := fun f : Nat → Nat => PyData.list (mkI L f)) (Q := fun f => ∀ a, a < L → f a < m) h
  exact ⟨T, e, fun s a hs ha => q s hs a ha⟩
theorem mkI_of {m : Nat} {xs : List PyData} (h : ∀ x, x ∈ xs → ∃ v : Nat, v < m ∧ x = .int (v : Nat)) : ∃ f : Nat → Nat, xs = mkI xs.length f ∧ ∀ a, a < xs.length → f a < m := by
  obtain ⟨T, e, q⟩ := mkL_of (c := fun v : Nat => PyData.int (v : Nat)) (Q := fun v => v < m) h
  exact ⟨T, e, q⟩
theorem mkB_of {xs : List PyData} (h : ∀ x, x ∈ xs → ∃ b : Bool, x = .bool b) : ∃ f : Nat → Bool, xs = mkB xs.length f := by
  obtain ⟨T, e, q⟩ := mkL_of (c := fun v : Bool => PyData.bool v) (Q := fun _ => True) fun x hx => by
    obtain ⟨b, e⟩ := h x hx
    exact ⟨b, True.intro, e⟩
  exact ⟨T, e⟩
/-! numbers of words -/
theorem sumN_congr {n : Nat} {f g : Nat → Nat} (h : ∀ i, i < n → f i = g i) : sumN n f = sumN n g := by
  unfold sumN
  rw [List.map_congr_left fun i hi => h i (List.mem_range.mp hi)]
theorem sumN_add (n : Nat) (f g : Nat → Nat) : sumN n (fun i => f i + g i) = sumN n f + sumN n g := by
  induction n with
  | zero => rfl
  | succ n ih =>
    rw [sumN_succ, sumN_succ, sumN_succ, ih]
    omega
theorem sumN_mul (n c : Nat) (f : Nat → Nat) : sumN n (fun i => c * f i) = c * sumN n f := by
  induction n with
  | zero => rfl
  | succ n ih => rw [sumN_succ, sumN_succ, ih, Nat.mul_add]
theorem sumN_0 (n : Nat) : sumN n (fun _ => 0) = 0 := by
  induction n with
  | zero => rfl
  | succ n ih => rw [sumN_succ, ih]
theorem sumN_setF {n t v : Nat} {f h : Nat → Nat} (ht : t < n) : sumN n (fun i => setF f t (f t + v) i * h i) = sumN n (fun i => f i * h i) + v * h t := by
  induction n with
  | zero => omega
  | succ n ih =>
    rw [sumN_succ, sumN_succ]
    by_cases e : t = n
    · subst e
      rw [setF_same, Nat.add_mul, sumN_congr (g := fun i => f i * h i) fun i hi => by rw [setF_ne (Nat.ne_of_lt hi)]]
      omega
    · rw [ih (by omega), setF_ne (fun z => e z.symm)]
      omega
def bk (L : Nat) (T : Nat → Nat → Nat) : Nat → (Nat → Nat) → Nat → Nat
  | 0, h, s => h s
  | k + 1, h, s => sumN L fun a => bk L T k h (T s a)
def bk1 (L : Nat) (T : Nat → Nat → Nat) (h : Nat → Nat) (s : Nat) : Nat := sumN L fun a => h (T s a)
theorem bk_comm (L : Nat) (T : Nat → Nat → Nat) : ∀ (k : Nat) (h : Nat → Nat) (s : Nat), bk L T (k + 1) h s = bk L T k (bk1 L T h) s
  | 0, h, s => rfl
  | k + 1, h, s => by
    show sumN L (fun a => bk L T (k + 1) h (T s a)) = sumN L fun a => bk L T k (bk1 L T h) (T s a)
    exact sumN_congr fun a _ => bk_comm L T k h (T s a)
def eN (E : Nat → Bool) (s : Nat) : Nat := if E s = true then 1 else 0
def cnt (L : Nat) (T : Nat → Nat → Nat) (E : Nat → Bool) (k s : Nat) : Nat := bk L T k (eN E) s
/-- words as lists of places of signs, in their order -/
def wl (L : Nat) : Nat → List (List Nat)
  | 0 => [[]]
  | k + 1 => (wl L k).flatMap fun w => (List.range L).map fun a => w ++ [a]
theorem wl_len (L k : Nat) : (wl L k).length = L ^ k := by
  induction k with
  | zero => rfl
  | succ k ih =>
    unfold wl
    rw [List.length_flatMap]
    simp only [List.length_map, List.length_range, List.map_const', List.sum_replicate_nat, ih, Nat.pow_succ]
theorem flat_len (L : Nat) : ∀ l : List (List Nat), (l.flatMap fun w => (List.range L).map fun a => w ++ [a]).length = l.length * L
  | [] => by simp
  | w :: l => by rw [List.flatMap_cons, List.length_append, flat_len L l, List.length_cons, Nat.succ_mul, List.length_map, List.length_range]; omega
theorem wl_mem {L : Nat} : ∀ {k : Nat} {w : List Nat}, w ∈ wl L k → w.length = k ∧ ∀ a, a ∈ w → a < L
  | 0, w, h => by
    rw [List.mem_singleton.mp h]
    exact ⟨rfl, by simp⟩
  | k + 1, w, h => by
    unfold wl at h
    obtain ⟨u, hu, h⟩ := List.mem_flatMap.mp h
    obtain ⟨a, ha, rfl⟩ := List.mem_map.mp h
    obtain ⟨h1, h2⟩ := wl_mem hu
    refine ⟨by rw [List.length_append, h1]; rfl, fun b hb => ?_⟩
    rcases List.mem_append.mp hb with hb | hb
    · exact h2 b hb
    · rw [List.mem_singleton.mp hb]
      exact List.mem_range.mp ha
/-- the sum along all words of a length -/
theorem wl_sum (L : Nat) (T : Nat → Nat → Nat) : ∀ (k : Nat) (h : Nat → Nat), ((wl L k).map fun w => h (w.foldl T 0)).sum = bk L T k h 0
  | 0, h => by
    simp [wl, bk]
  | k + 1, h => by
    rw [bk_comm, ← wl_sum L T k (bk1 L T h)]
    have e : wl L (k + 1) = (wl L k).flatMap fun w => (List.range L).map fun a => w ++ [a] := rfl
    rw [e]
    generalize wl L k = l
    induction l with
    | nil => rfl
    | cons w l ih =>
      rw [List.flatMap_cons, List.map_append, List.sum_append, ih, List.map_cons, List.sum_cons]
      congr 1
      rw [List.map_map]
      unfold bk1 sumN
      congr 1
      refine List.map_congr_left fun a _ => ?_
      show h ((w ++ [a]).foldl T 0) = _
      rw [List.foldl_append]
      rfl
theorem filter_sum {α : Type} (p : α → Bool) (l : List α) : (l.filter p).length = (l.map fun x => if p x = true then 1 else 0).sum := by
  induction l with
  | nil => rfl
  | cons x l ih =>
    rw [List.map_cons, List.sum_cons, ← ih, List.filter_cons]
    by_cases h : p x = true
    · rw [if_pos h, if_pos h, List.length_cons]
      omega
    · rw [if_neg h, if_neg h]
      omega
theorem wl_cnt (L : Nat) (T : Nat → Nat → Nat) (E : Nat → Bool) (k : Nat) : ((wl L k).filter fun w => E (w.foldl T 0)).length = cnt L T E k 0 := by
  rw [filter_sum]
  exact wl_sum L T k (eN E)
/-- all words to a length -/
def wlTo (L : Nat) : Nat → List (List Nat)
  | 0 => wl L 0
  | k + 1 => wlTo L k ++ wl L (k + 1)
theorem wlTo_mem {L k : Nat} {w : List Nat} (h : w ∈ wlTo L k) : w.length ≤ k ∧ ∀ a, a ∈ w → a < L := by
  induction k with
  | zero =>
    obtain ⟨a, b⟩ := wl_mem (k := 0) h
    exact ⟨by omega, b⟩
  | succ k ih =>
    rcases List.mem_append.mp h with h | h
    · exact ⟨by have := (ih h).1; omega, (ih h).2⟩
    · obtain ⟨a, b⟩ := wl_mem h
      exact ⟨by omega, b⟩
theorem filter_none {α : Type} {p : α → Bool} {l : List α} (h : ∀ x, x ∈ l → p x = false) : l.filter p = [] := by
  rw [List.filter_eq_nil_iff]
  intro x hx
  rw [h x hx]
  exact Bool.false_ne_true
theorem filter_all {α : Type} {p q : α → Bool} {l : List α} (h : ∀ x, x ∈ l → p x = q x) : l.filter p = l.filter q := List.filter_congr h
theorem wlTo_eq {L m k : Nat} (hk : k ≤ m) (p : List Nat → Bool) : ((wlTo L m).filter fun w => p w && decide (w.length = k)).length = ((wl L k).filter p).length := by
  induction m with
  | zero =>
    have e : k = 0 := by omega
    subst e
    congr 1
    refine filter_all fun w hw => ?_
    rw [(wl_mem hw).1]
    simp
  | succ m ih =>
    unfold wlTo
    rw [List.filter_append, List.length_append]
    by_cases e : k = m + 1
    · subst e
      rw [filter_none (l := wlTo L m) fun w hw => by have := (wlTo_mem hw).1; simp; intro _; omega]
      rw [List.length_nil, Nat.zero_add]
      congr 1
      refine filter_all fun w hw => ?_
      rw [(wl_mem hw).1]
      simp
    · rw [ih (by omega), filter_none (l := wl L (m + 1)) fun w hw => by rw [(wl_mem hw).1]; simp; intro _; omega]
      rfl
theorem wlTo_le {L m k : Nat} (hk : k ≤ m) (p : List Nat → Bool) : ((wlTo L m).filter fun w => p w && decide (w.length ≤ k)).length = sumN (k + 1) fun j => ((wl L j).filter p).length := by
  induction m with
  | zero =>
    have e : k = 0 := by omega
    subst e
    rw [sumN_succ, show sumN 0 (fun j => ((wl L j).filter p).length) = 0 from rfl, Nat.zero_add]
    congr 1
    refine filter_all fun w hw => ?_
    rw [(wl_mem hw).1]
    simp
  | succ m ih =>
    unfold wlTo
    rw [List.filter_append, List.length_append]
    by_cases e : k = m + 1
    · subst e
      rw [sumN_succ, filter_all (l := wlTo L m) (q := fun w => p w && decide (w.length ≤ m)) fun w hw => by
        have := (wlTo_mem hw).1
        have h1 : decide (w.length ≤ m + 1) = true := by simp; omega
        have h2 : decide (w.length ≤ m) = true := by simp; omega
        rw [h1, h2]]
      congr 1
      · clear ih
        have key : ∀ m, ((wlTo L m).filter fun w => p w && decide (w.length ≤ m)).length = sumN (m + 1) fun j => ((wl L j).filter p).length := by
          intro m
          induction m with
          | zero =>
            rw [sumN_succ, show sumN 0 (fun j => ((wl L j).filter p).length) = 0 from rfl, Nat.zero_add]
            congr 1
            refine filter_all fun w hw => ?_
            rw [(wl_mem hw).1]
            simp
          | succ m ih =>
            unfold wlTo
            rw [List.filter_append, List.length_append, sumN_succ, filter_all (l := wlTo L m) (q := fun w => p w && decide (w.length ≤ m)) fun w hw => by
              have := (wlTo_mem hw).1
              have h1 : decide (w.length ≤ m + 1) = true := by simp; omega
              have h2 : decide (w.length ≤ m) = true := by simp; omega
              rw [h1, h2], ih]
            congr 2
            refine filter_all fun w hw => ?_
            rw [(wl_mem hw).1]
            simp
        exact key m
      · congr 1
        refine filter_all fun w hw => ?_
        rw [(wl_mem hw).1]
        simp
    · rw [ih (by omega), filter_none (l := wl L (m + 1)) fun w hw => by rw [(wl_mem hw).1]; simp; intro _; omega]
      rfl
/-- a letter's number -/
def cz (z : Str) (a : Nat) : Nat := z.cps.toList.getD a 0
/-- a word's text -/
def wS (z : Str) (w : List Nat) : Str := ⟨(w.map fun a => cz z a).toArray⟩
theorem wS_len (z : Str) (w : List Nat) : (wS z w).length = w.length := by
  show (w.map _).toArray.size = _
  rw [List.size_toArray, List.length_map]
theorem wS_snoc (z : Str) (w : List Nat) (a : Nat) : wS z w ++ sg (cz z a) = wS z (w ++ [a]) := by
  show (⟨_⟩ : Str) = ⟨_⟩
  congr 1
  simp [wS, sg]
theorem signs_wS (z : Str) (w : List Nat) : signsOf (wS z w) = w.map fun a => .str (sg (cz z a)) := by
  unfold signsOf wS sg
  simp
theorem signs_rng (z : Str) : signsOf z = mkL z.length fun a => .str (sg (cz z a)) := by
  apply List.ext_getElem?
  intro i
  unfold signsOf mkL
  rw [List.getElem?_map, List.getElem?_map]
  by_cases h : i < z.length
  · have h2 : i < z.cps.toList.length := by rw [Array.length_toList]; exact h
    rw [List.getElem?_range h, List.getElem?_eq_getElem h2]
    simp [sg, cz]
    rw [Array.getElem?_eq_getElem (by exact h)]
    rfl
  · rw [List.getElem?_eq_none (l := z.cps.toList) (by rw [Array.length_toList]; exact Nat.le_of_not_lt h), List.getElem?_eq_none (by rw [List.length_range]; omega)]
    rfl
/-- the place of a sign -/
theorem idx_mem {z : Str} {a : Nat} (h : a < z.length) : cz z a ∈ z.cps.toList := by
  have h2 : a < z.cps.toList.length := by rw [Array.length_toList]; exact h
  have e : cz z a = z.cps.toList[a] := by
    unfold cz
    rw [List.getD_eq_getElem?_getD, List.getElem?_eq_getElem h2]
    rfl
  rw [e]
  exact List.getElem_mem h2
theorem idx_at {z : Str} (nd : z.cps.toList.Nodup) {a : Nat} (h : a < z.length) : z.cps.toList.idxOf (cz z a) = a := by
  have h2 : a < z.cps.toList.length := by rw [Array.length_toList]; exact h
  have e : cz z a = z.cps.toList[a] := by
    unfold cz
    rw [List.getD_eq_getElem?_getD, List.getElem?_eq_getElem h2]
    rfl
  rw [e]
  exact nd.idxOf_getElem a h2
theorem nodup_map {α β : Type} {f : α → β} : ∀ {l : List α}, l.Nodup → (∀ x, x ∈ l → ∀ y, y ∈ l → f x = f y → x = y) → (l.map f).Nodup
  | [], _, _ => List.nodup_nil
  | a :: l, h, g => by
    obtain ⟨h1, h2⟩ := List.nodup_cons.mp h
    rw [List.map_cons]
    refine List.nodup_cons.mpr ⟨fun z => ?_, nodup_map h2 fun x hx y hy => g x (List.mem_cons_of_mem _ hx) y (List.mem_cons_of_mem _ hy)⟩
    obtain ⟨b, hb, e⟩ := List.mem_map.mp z
    have := g b (List.mem_cons_of_mem _ hb) a List.mem_cons_self e
    rw [← this] at h1
    exact h1 hb
/-! comprehensions and loops over maps of places -/
theorem lc_mkL {vs : List Nat} {e0 : List Sl} {wg : DG} {we : DE} {Φ : List PyData → List Int → Prop} {n : Nat} {F : Nat → PyData} (G : Nat → PyData) {q : List Int} (hl : n ≤ 16777216)
    (hs : ∀ i, i < n → ∀ Θ : S → PyData → S → Prop, (∀ s1 s3, s3.e = s1.e → s3.q = q → Θ s1 (G i) s3) → wg (F i) ⟨wipeE e0 vs, q⟩ fun s1 => wipeE s1.e vs = wipeE e0 vs ∧ we s1 (Θ s1))
    (hd : Φ (mkL n G) q) : lcW vs e0 wg wYes we Φ (mkL n F) [] q :=
  lc_mapl (List.range n) F G (by rw [List.length_range]; exact hl) (fun i hi => hs i (List.mem_range.mp hi)) hd
theorem loop_mkL {wg : DG} {wb : DS} {Φ : EN} {n : Nat} {F : Nat → PyData} (Inv : Nat → S → Prop) {s : S} (h0 : Inv 0 s)
    (hs : ∀ i s, i < n → Inv i s → ∀ Ψ : EN, (∀ s, Inv (i + 1) s → Ψ.nx s) → (∀ s, Inv (i + 1) s → Ψ.ct s) → Ψ.rt = Φ.rt → Ψ.bk = Φ.nx → Ψ.rl = Φ.rl → wg (F i) s fun s1 => wb Ψ s1)
    (hd : ∀ s, Inv n s → Φ.nx s) : loopW wg wb Φ (mkL n F) s := by
  refine loop_ix (mkL n F) Inv h0 (fun i x s hx q Ψ h1 h2 h3 h4 h5 => ?_) (fun s q => hd s (by rw [mkL_len] at q; exact q))
  have hi : i < n := by rw [← mkL_len n F]; exact (List.getElem?_eq_some_iff.mp hx).1
  rw [mkL_get hi] at hx
  cases hx
  exact hs i s hi q Ψ h1 h2 h3 h4 h5
/-- a comprehension with a test over a mapped list -/
theorem lc_fml {α : Type} {vs : List Nat} {e0 : List Sl} {wg : DG} {wt : DT} {we : DE} {Φ : List PyData → List Int → Prop} (l : List α) (F G : α → PyData) (p : α → Bool) {q : List Int} (hl : l.length ≤ 16777216)
    (hs : ∀ a, a ∈ l → ∀ (Y : S → PyData → S → Prop) (N : S → Prop), (p a = true → ∀ s1 s3, s3.e = s1.e → s3.q = q → Y s1 (G a) s3) → (p a = false → ∀ s2, s2.q = q → N s2) →
      wg (F a) ⟨wipeE e0 vs, q⟩ fun s1 => wipeE s1.e vs = wipeE e0 vs ∧ wt s1 fun b s2 => s2.e = s1.e ∧ if b = true then we s2 (Y s1) else N s2)
    (hd : Φ ((l.filter p).map G) q) : lcW vs e0 wg wt we Φ (l.map F) [] q := by
  refine lc_inv (l.map F) (fun pre acc q' => acc = ((l.take pre.length).filter p).map G ∧ q' = q) ⟨rfl, rfl⟩ (fun pre x post acc q' e h Ψ k => ?_) (fun acc q' h => by rw [h.1, h.2, List.length_map, List.take_length]; exact hd)
  obtain ⟨rfl, rfl⟩ := h
  have hx : (l.map F)[pre.length]? = some x := by rw [e]; simp
  rw [List.getElem?_map] at hx
  cases ha : l[pre.length]? with
  | none =>
    rw [ha] at hx
    cases hx
  | some a =>
    rw [ha] at hx
    cases hx
    have hlen : (((l.take pre.length).filter p).map G).length < sizeLine := sz_lt (by
      have h1 := (List.getElem?_eq_some_iff.mp ha).1
      have h2 := List.length_filter_le p (l.take pre.length)
      rw [List.length_take] at h2
      rw [List.length_map]
      omega)
    refine hs a (List.mem_of_getElem? ha) (fun s1 y s3 => s3.e = s1.e ∧ (((l.take pre.length).filter p).map G).length < sizeLine ∧ Ψ (((l.take pre.length).filter p).map G ++ [y]) s3.q) (fun s2 => Ψ (((l.take pre.length).filter p).map G) s2.q)
      (fun hp s1 s3 h1 h2 => ⟨h1, hlen, k _ _ ⟨?_, h2⟩⟩) (fun hp s2 h2 => k _ _ ⟨?_, h2⟩)
    · rw [List.length_append, List.length_singleton, take_snoc ha, List.filter_append, List.map_append]
      simp [hp]
    · rw [List.length_append, List.length_singleton, take_snoc ha, List.filter_append, List.map_append]
      simp [hp]
/-- a comprehension over a pool: its items fulfil a word, as many as are walked -/
theorem lc_predE {P : PyData → Prop} {vs : List Nat} {e0 : List Sl} {wg : DG} {we : DE} {Φ : List PyData → List Int → Prop} {q : List Int} (xs : List PyData) (hq : PoolOk q) (hm2 : xs.length ≤ 10000)
    (hs : ∀ x q, x ∈ xs → PoolOk q → ∀ Θ : S → PyData → S → Prop, (∀ s1 y s3, s3.e = s1.e → PoolOk s3.q → P y → Θ s1 y s3) → wg x ⟨wipeE e0 vs, q⟩ fun s1 => wipeE s1.e vs = wipeE e0 vs ∧ we s1 (Θ s1))
    (hd : ∀ ys q, PoolOk q → ys.length = xs.length → (∀ y, y ∈ ys → P y) → Φ ys q) : lcW vs e0 wg wYes we Φ xs [] q := by
  refine lc_inv xs (fun pre acc q' => PoolOk q' ∧ acc.length = pre.length ∧ ∀ y, y ∈ acc → P y) ⟨hq, rfl, by simp⟩ (fun pre x post acc q' e h Ψ k => ?_) (fun acc q' h => hd acc q' h.1 h.2.1 h.2.2)
  obtain ⟨hq', hl, hp⟩ := h
  have hlen : acc.length < sizeLine := sz_lt (by
    rw [e] at hm2
    simp at hm2
    omega)
  have r := hs x q' (by rw [e]; simp) hq' (fun s1 y s3 => s3.e = s1.e ∧ acc.length < sizeLine ∧ Ψ (acc ++ [y]) s3.q) (fun s1 y s3 h1 h2 h3 => ⟨h1, hlen, k _ _ ⟨h2, by simp [hl], fun u hu => by
    rcases List.mem_append.mp hu with hu | hu
    · exact hp u hu
    · rw [List.mem_singleton.mp hu]
      exact h3⟩⟩)
  simp only [wYes, true_and, if_true]
  exact r
/-! tables that are changed -/
def rowsM (n L : Nat) (T : Nat → Nat → Nat) : List (List PyData) := (List.range n).map fun s => mkI L (T s)
theorem rowsM_len (n L : Nat) (T : Nat → Nat → Nat) : (rowsM n L T).length = n := by
  unfold rowsM
  rw [List.length_map, List.length_range]
theorem rowsM_get {n L s : Nat} {T : Nat → Nat → Nat} (h : s < n) : (rowsM n L T)[s]? = some (mkI L (T s)) := by
  unfold rowsM
  rw [List.getElem?_map, List.getElem?_range h]
  rfl
theorem rowsM_list (n L : Nat) (T : Nat → Nat → Nat) : (rowsM n L T).map PyData.list = mkM n L T := by
  unfold rowsM mkM mkL
  rw [List.map_map]
  rfl
def setT (T : Nat → Nat → Nat) (s a v : Nat) : Nat → Nat → Nat := setF T s (setF (T s) a v)
theorem rowsM_set {n L s a v : Nat} {T : Nat → Nat → Nat} (ha : a < L) : (rowsM n L T).set s ((mkI L (T s)).set a (.int (v : Nat))) = rowsM n L (setT T s a v) := by
  rw [mkI_set ha]
  apply List.ext_getElem?
  intro j
  rw [List.getElem?_set]
  by_cases hj : j < n
  · by_cases hs : s = j
    · subst hs
      rw [if_pos rfl, rowsM_len, if_pos hj, rowsM_get hj]
      unfold setT
      rw [setF_same]
    · rw [if_neg hs, rowsM_get hj, rowsM_get hj]
      unfold setT
      rw [setF_ne (fun z => hs z.symm)]
  · rw [List.getElem?_eq_none (l := rowsM n L (setT T s a v)) (by rw [rowsM_len]; omega)]
    by_cases hs : s = j
    · rw [if_pos hs, rowsM_len, if_neg (by omega)]
    · rw [if_neg hs, List.getElem?_eq_none (by rw [rowsM_len]; omega)]
theorem setT_lt {n L s a v : Nat} {T : Nat → Nat → Nat} (h : ∀ s a, s < n → a < L → T s a < n) (hv : v < n) : ∀ s' a', s' < n → a' < L → setT T s a v s' a' < n := fun s' a' hs ha => by
  unfold setT
  by_cases e : s' = s
  · subst e
    rw [setF_same]
    by_cases e2 : a' = a
    · subst e2
      rw [setF_same]
      exact hv
    · rw [setF_ne e2]
      exact h s' a' hs ha
  · rw [setF_ne e]
    exact h s' a' hs ha
theorem mkI_cons (n : Nat) (f : Nat → Nat) : mkI (n + 1) f = .int (f 0 : Nat) :: mkI n fun i => f (i + 1) := by
  unfold mkI
  rw [List.range_succ_eq_map, List.map_cons, List.map_map]
  rfl
end DL
/-! DL: the law's own call, its promise one of those that know that nothing is under repr; promises put together -/
namespace DL
open PySem PySem.Spec PyProof.Rows L2
/-- a table of a def's code object -/
abbrev AnyK (K : PySem.W.Frag) (b : Addr) : Prop := TabK K b ∨ LamK K b
theorem AnyK.no {K : PySem.W.Frag} {b : Addr} (h : AnyK K b) : K.lookup b = none := by
  rcases h with ⟨_, _, _, _, _, _, _, _, _, _, _, _, _, _, _, _, y⟩ | ⟨_, _, _, _, _, _, _, _, _, _, _, _, _, _, _, _, y, _⟩
  · exact y
  · exact y
section
variable {P : Program} {w : World} {K : PySem.W.Frag} {mg mb : Str → Option Value} {k : Nat} {fa p : Addr} {fd : FuncData} {x : Str} {t : Shared} {us : List Value} {ns : List Int}
/-- what stands behind the call of a law -/
abbrev LawEnd (t : Shared) (r : Result) (t' : Shared) : Prop := r = .ok (.ret (.bool true)) ∧ OldK t.heap t'.heap ∧ t'.os = t.os ∧ AllBare t'.gens
theorem law_at (kin : K.In t.heap) (gl : t.heap.Ns mainGlobals mg) (bn : t.heap.Ns builtinsNs mb) (bb : ∀ y : Str, y ≠ "__name__" → mb y = bootBuiltins y) (nl : t.heap.NoLimit) (gn : t.gens = #[])
    (tabs : ∀ b, AnyK K b → t.heap.get? b = some { cls := .none, data := .fields #[] } ∧ isCodeTable t.heap b) (bm : BmOk mg t.heap)
    (hp : t.heap.get? p = some { cls := .type "list", data := .seq us.toArray }) (hr : Room k callerA) (F : ∀ base : Heap, BmOk mg base → FnG P w K mg base CX0 k fa fd [x] (spLaw K)) (bd : ∀ (s : Shared) (u : Value), BindsTo s fd ⟨[u], []⟩ [(x, u)])
    (H : Hp) (h0 : ∀ b, H b = none ∨ (b = p ∧ ∃ o xs, H b = some (.frz o (.lst xs))) ∨ AnyK K b) (hT : TabsAt K H ∧ TblE K H) (sq : SqL K H p (ns.map V.int)) (nn : ns.length ≤ 63) (hok : HOk P w H t.heap) (hK : H p ≠ none → K.lookup p = none) :
    codeAny (model P w) callerA (.call (.ref fa) ⟨[.ref p], []⟩) (LawEnd t) t := by
  have free : ∀ {b : Addr} {o : Obj}, t.heap.get? b = some o → (∀ vs n, o.data ≠ .seq vs n) → o.data ≠ .fields #[] → H b = none := fun {b o} e n1 n2 => by
    rcases h0 b with z | ⟨z, _⟩ | z
    · exact z
    · rw [z, hp] at e
      cases e
      exact (n1 _ _ rfl).elim
    · rw [(tabs b z).1] at e
      cases e
      exact (n2 rfl).elim
  have dict : ∀ {b : Addr} {m : Str → Option Value}, t.heap.Ns b m → (hidT t.heap H).Ns b m := fun {b m} q => by
    obtain ⟨o, es, ep, e1, e2, e3⟩ := q
    exact ⟨o, es, ep, hidT_get e1 (free e1 (fun vs n z => by rw [e2] at z; cases z) fun z => by rw [e2] at z; cases z), e2, e3⟩
  have inb : K.In (hidT t.heap H) := fun b o e => by
    by_cases z : H b = none
    · exact hidT_get (kin b o e) z
    · rcases h0 b with y | ⟨zb, _⟩ | y
      · exact absurd y z
      · rw [zb] at e z
        rw [hK z] at e
        cases e
      · rw [y.no] at e
        cases e
  have bmb : BmOk mg (hidT t.heap H) := by
    obtain ⟨b, ob, m1, m2, m3, m4, m5, m6, m7⟩ := bm
    exact ⟨b, ob, m1, m2, m3, hidT_get m4 (free m4 (fun vs n z => by rw [m7] at z; cases z) fun z => by rw [m7] at z; cases z), m5, m6, m7⟩
  obtain ⟨ml, l1, l2⟩ := nl
  have envd : Env0 P w K mg (hidT t.heap H) callerA [] t H :=
    ⟨rfl, ⟨inb, dict gl, ⟨mb, dict bn, bb⟩, ⟨ml, dict l1, l2⟩⟩, fun b o e => of_hidT e, Nat.le_of_eq (hidT_size _ _), trivial, fun b hb => (by cases (show b ∈ ([] : List Addr) from hb)), hok, .of_eq gn⟩
  refine codeAny_mono ((F (hidT t.heap H) bmb).go callerA [] t H ⟨[.ref p], []⟩ [.ref p] [.ref p] (fun v H' => v = .bl true ∧ TabsAt K H') (fun _ _ _ => False) rfl hr envd (bd t (.ref p)) (.cons rfl .nil) ⟨p, ns, hT, rfl, sq, nn, fun _ z => ⟨rfl, z⟩⟩) fun r t' q => ?_
  match r, q with
  | .error e, q => exact (show False from q).elim
  | .ok .next, q => exact q.elim
  | .ok .brk, q => exact q.elim
  | .ok .cont, q => exact q.elim
  | .ok (.ret u), q =>
    obtain ⟨v, H', o1, o2, un, hok2, ru, rfl, hT2⟩ := q
    obtain rfl : u = Value.bool true := ru
    have tab2 : ∀ b, AnyK K b → ∃ ps : Array Value, t'.heap.get? b = some { cls := .none, data := .fields ps } := fun b z => by
      rcases z with z | z
      · obtain ⟨⟨ps, q1, _⟩, _⟩ := hok2 b _ (hT2.1 b z)
        exact ⟨ps, q1⟩
      · obtain ⟨ps, q⟩ := hT2.2 b z
        exact ⟨ps, hok2 b _ q⟩
    have keep : ∀ b o, ¬ AnyK K b → t.heap.get? b = some o → t'.heap.get? b = some o := fun b o nT e => by
      rcases h0 b with z | ⟨_, ob, xs, z⟩ | z
      · exact un.keep b o e z (fun y => (by cases (show b ∈ ([] : List Addr) from y))) fun y => (by cases y)
      · have g1 := (hok b _ z).1
        have g2 := (hok2 b _ (un.frzs b ob _ z)).1
        rw [e] at g1
        cases g1
        exact g2
      · exact absurd z nT
    refine ⟨rfl, ⟨fun b o e => ?_, fun b o e => ?_⟩, o1, o2⟩
    · by_cases z : AnyK K b
      · obtain ⟨ps, q1⟩ := tab2 b z
        obtain ⟨q2, q3⟩ := tabs b z
        rw [q2] at e
        cases e
        exact .inr (.inl ⟨q3, rfl, #[], ps, rfl, by rw [Array.empty_append]; exact q1⟩)
      · exact .inl (keep b o z e)
    · by_cases z : AnyK K b
      · obtain ⟨ps, q1⟩ := tab2 b z
        exact ⟨_, q1⟩
      · exact ⟨o, keep b o z e⟩
theorem law_callG (kin : K.In t.heap) (gl : t.heap.Ns mainGlobals mg) (bn : t.heap.Ns builtinsNs mb) (bb : ∀ y : Str, y ≠ "__name__" → mb y = bootBuiltins y) (nl : t.heap.NoLimit) (gn : t.gens = #[])
    (tabs : ∀ b, AnyK K b → t.heap.get? b = some { cls := .none, data := .fields #[] } ∧ isCodeTable t.heap b) (bm : BmOk mg t.heap)
    (hp : t.heap.get? p = some { cls := .type "list", data := .seq us.toArray }) (hi : IntsAre us ns) (nn : ns.length ≤ 63) (hr : Room k callerA) (F : ∀ base : Heap, BmOk mg base → FnG P w K mg base CX0 k fa fd [x] (spLaw K)) (bd : ∀ (s : Shared) (u : Value), BindsTo s fd ⟨[u], []⟩ [(x, u)]) :
    codeAny (model P w) callerA (.call (.ref fa) ⟨[.ref p], []⟩) (LawEnd t) t := by
  have rv := vals_ints hi
  have line : ns.length ≤ sizeLine := by rw [sizeLine_eq]; omega
  have ln := hi.length
  have pT : ¬ AnyK K p := fun z => by
    have q := (tabs p z).1
    rw [hp] at q
    cases q
  have okT : ∀ {H : Hp} {b : Addr}, TabK K b → ObjOk P w H t.heap b (.ext (tabPh b)) := fun {H b} z =>
    ⟨⟨#[], (tabs b (.inl z)).1, (show TriplesOk [] from True.intro)⟩, ⟨_, (tabs b (.inl z)).1⟩, fun h1 h2 ⟨ps, q1, q2⟩ q => ⟨ps, q _ q1, q2⟩⟩
  have okL : ∀ {H : Hp} {b : Addr}, LamK K b → ObjOk P w H t.heap b (.tbl #[]) := fun {H b} z => (tabs b (.inr z)).1
  have teG : ∀ {H : Hp}, (∀ b ps, H b = some (.tbl ps) → tabG K b = some (.tbl ps)) → TblE K H := fun {H} f b ps h => by
    rcases tabG_in (f b ps h) with ⟨_, z⟩ | ⟨z, e⟩
    · cases z
    · cases e
      exact ⟨z, rfl⟩
  cases hk : K.lookup p with
  | some o =>
    have e := kin p o hk
    rw [hp] at e
    cases e
    refine law_at kin gl bn bb nl gn tabs bm hp hr F bd (tabG K) (fun b => ?_) ⟨tabG_at, teG fun _ _ h => h⟩ (.inr ⟨_, us.toArray, _, hk, rfl, rfl, rfl, by rw [List.size_toArray, ln]; exact line, by simpa using rv⟩) nn (fun b u z => ?_) fun z => absurd (tabG_none (fun y => pT (.inl y)) fun y => pT (.inr y)) z
    · by_cases z : AnyK K b
      · exact .inr (.inr z)
      · exact .inl (tabG_none (fun y => z (.inl y)) fun y => z (.inr y))
    · rcases tabG_in z with ⟨z1, rfl⟩ | ⟨z1, rfl⟩
      · exact okT z1
      · exact okL z1
  | none =>
    let H : Hp := fun b => if b = p then some (.frz { cls := .type "list", data := .seq us.toArray } (.lst (ns.map V.int))) else tabG K b
    have hp2 : H p = some (.frz { cls := .type "list", data := .seq us.toArray } (.lst (ns.map V.int))) := if_pos rfl
    have ne : ∀ b, AnyK K b → b ≠ p := fun b hb z => pT (by rw [← z]; exact hb)
    refine law_at kin gl bn bb nl gn tabs bm hp hr F bd H (fun b => ?_) ⟨⟨fun b hb => (if_neg (ne b (.inl hb))).trans (tabG_at.1 b hb), fun b hb => ?_⟩, teG fun b ps h => ?_⟩ (.inl (.inr ⟨_, hp2⟩)) nn (fun b u z => ?_) fun _ => hk
    · by_cases z : b = p
      · exact .inr (.inl ⟨z, _, _, by rw [z]; exact hp2⟩)
      · by_cases y : AnyK K b
        · exact .inr (.inr y)
        · exact .inl ((if_neg z).trans (tabG_none (fun x => y (.inl x)) fun x => y (.inr x)))
    · obtain ⟨ps, q⟩ := tabG_at.2 b hb
      exact ⟨ps, (if_neg (ne b (.inr hb))).trans q⟩
    · by_cases z : b = p
      · rw [z, hp2] at h
        cases h
      · rw [show H b = tabG K b from if_neg z] at h
        exact h
    · by_cases y : b = p
      · rw [y, hp2] at z
        cases z
        rw [y]
        exact ⟨hp, by rw [List.length_map]; exact line, us, _, rv, hp⟩
      · rw [show H b = tabG K b from if_neg y] at z
        rcases tabG_in z with ⟨z1, rfl⟩ | ⟨z1, rfl⟩
        · exact okT z1
        · exact okL z1
end
/-- behind k_head, from the law's promise -/
theorem walk_ofG {l : PySem.W.OpenLaw} {k : Nat} {q : Program} {loose : List Str} {XP : (Str → Option Value) → Heap → Prop} {YP : World → Heap → Prop} {d : DefRec} {K : Params → PySem.W.Frag} {x : Str}
    (h63 : l.most = some 63) (nodf : d.params.defaults = []) (room : Room k callerA) (hK : ∀ (w : World) (h : Heap), YP w h → (K w.params).In h)
    (hrec : ∀ y ∈ tabNames ++ lamNames, ((recsOf q).any fun e => e.name == y) = true)
    (F : ∀ (w : World) (mg : Str → Option Value) (fa : Addr) (h : Heap), (K w.params).In h → h.Ns mainGlobals mg → mg d.name = some (.ref fa) →
      ∃ fd : FuncData, (∀ (s : Shared) (u : Value), BindsTo s fd ⟨[u], []⟩ [(x, u)]) ∧ ∀ base : Heap, BmOk mg base → FnG l.prog w (K w.params) mg base CX0 k fa fd [x] (spLaw (K w.params))) :
    PySem.W.WalkO q loose XP YP l.row.toRowW d [] (fun f vs => PySem.call f vs) := by
  refine Att.attach_call h63 nodf fun w t0 t mg mb fa o pm cd doc p us ns G Y e1 e2 e3 hm hp hi hl gn => ?_
  obtain ⟨fd, bd, hF⟩ := F w mg fa _ (hK w _ Y) G.T.g hm
  have KX := hK w _ Y
  refine law_callG KX G.T.g G.T.b G.T.builtins G.T.nolimit gn (fun b hb => ?_) ?_ hp hi hl room hF bd
  · have hb' : ∃ (x : Str) (f c : Addr) (o : Obj) (fd : FuncData) (e : Value) (dd : Option Addr) (vs : Array Value) (sl : Array (Option Value)),
        x ∈ tabNames ++ lamNames ∧ PySem.W.nsIn (K w.params) mainGlobals x = some (some (.ref f)) ∧ (K w.params).lookup f = some o ∧ o.data = .func fd ∧ fd.code = .ref c ∧ (K w.params).lookup c = some ⟨e, dd, .fields vs, sl⟩ ∧ vs[11]? = some (.ref b) := by
      rcases hb with ⟨y, f, c, of, fdf, e, dd, vs, sl, hy, k0, k1, k2, k3, k4, k5, _⟩ | ⟨y, f, c, of, fdf, e, dd, vs, sl, hy, k0, k1, k2, k3, k4, k5, _⟩
      · exact ⟨y, f, c, of, fdf, e, dd, vs, sl, List.mem_append_left _ hy, k0, k1, k2, k3, k4, k5⟩
      · exact ⟨y, f, c, of, fdf, e, dd, vs, sl, List.mem_append_right _ hy, k0, k1, k2, k3, k4, k5⟩
    obtain ⟨y, f, c, of, fdf, e, dd, vs, sl, hy, k0, k1, k2, k3, k4, k5⟩ := hb'
    obtain ⟨dL, hm1, hn1⟩ := List.any_eq_true.mp (hrec y hy)
    have hn2 : dL.name = y := beq_iff_eq.mp hn1
    obtain ⟨a', o', fd', c', P', h1, h2, h3, h4, h5, h6⟩ := G.T.tab dL hm1
    rw [hn2, PySem.W.mg_of KX G.T.g k0] at h1
    cases h1
    have g1 := KX _ _ k1
    rw [g1] at h2
    cases h2
    rw [k2] at h3
    cases h3
    rw [k3] at h4
    cases h4
    have h7 := h6
    obtain ⟨⟨oc, vc, e1, _, e3, e4⟩, hP⟩ := h6
    have g2 := KX _ _ k4
    rw [g2] at e1
    cases e1
    cases e3
    rw [k5] at e4
    cases e4
    exact ⟨hP, h7.isCodeTable⟩
  · obtain ⟨bm, ob, b1, b2, b3, b4, b5, b6⟩ := G.T.bmain
    refine ⟨bm, ob, b1, b2, fun q => ?_, b3, b4, b5, b6⟩
    obtain ⟨o2, es, ep, e, hd, _⟩ := G.T.g
    rw [q, e] at b3
    cases b3
    rw [hd] at b6
    cases b6
/-! promises put together, and the one that is never asked -/
section
variable {P : Program} {w : World} {K : PySem.W.Frag} {mg : Str → Option Value} {base : Heap} {k : Nat} {f : Addr} {fd : FuncData} {ps : List Str} {qual x : Str} {st : Stmt} {N : List Str}
theorem fng_unionD {U : DSp} {sp : Nat → DSp} {n : Nat} (h : ∀ d, d ≤ n → FnG P w K mg base CX0 k f fd ps (spD K (sp d))) (hU : ∀ ds Φ, U ds Φ → ∃ d, d ≤ n ∧ sp d ds Φ) : FnG P w K mg base CX0 k f fd ps (spD K U) :=
  ⟨fun vs H Q E ⟨F, ds, Φ, a, b, c, e⟩ => by
    obtain ⟨d, hd, c⟩ := hU _ _ c
    exact (h d hd).len vs H Q E ⟨F, ds, Φ, a, b, c, e⟩, fun A outer s H args us vs Q E g hr z hb hv ⟨F, ds, Φ, a, b, c, e⟩ => by
    obtain ⟨d, hd, c⟩ := hU _ _ c
    exact (h d hd).go A outer s H args us vs Q E g hr z hb hv ⟨F, ds, Φ, a, b, c, e⟩⟩
theorem fng_unionP {U : DSpP} {sp : Nat → DSpP} {n : Nat} (h : ∀ d, d ≤ n → FnG P w K mg base CX0 k f fd ps (spP K (sp d))) (hU : ∀ ds q Φ, U ds q Φ → ∃ d, d ≤ n ∧ sp d ds q Φ) : FnG P w K mg base CX0 k f fd ps (spP K U) :=
  ⟨fun vs H Q E ⟨a, us, F, ds, q, Φ, h1, h2, h3, h4, h5, c, h6⟩ => by
    obtain ⟨d, hd, c⟩ := hU _ _ _ c
    exact (h d hd).len vs H Q E ⟨a, us, F, ds, q, Φ, h1, h2, h3, h4, h5, c, h6⟩, fun A outer s H args us' vs Q E g hr z hb hv ⟨a, us, F, ds, q, Φ, h1, h2, h3, h4, h5, c, h6⟩ => by
    obtain ⟨d, hd, c⟩ := hU _ _ _ c
    exact (h d hd).go A outer s H args us' vs Q E g hr z hb hv ⟨a, us, F, ds, q, Φ, h1, h2, h3, h4, h5, c, h6⟩⟩
theorem fng_noD : FnG P w K mg base CX0 k f fd ps (spD K fun _ _ => False) := ⟨fun vs H Q E ⟨F, ds, Φ, a, b, c, e⟩ => c.elim, fun A outer s H args us vs Q E g hr z hb hv ⟨F, ds, Φ, a, b, c, e⟩ => c.elim⟩
theorem fng_noP : FnG P w K mg base CX0 k f fd ps (spP K fun _ _ _ => False) := ⟨fun vs H Q E ⟨a, us, F, ds, q, Φ, h1, h2, h3, h4, h5, c, h6⟩ => c.elim, fun A outer s H args us vs Q E g hr z hb hv ⟨a, us', F, ds, q, Φ, h1, h2, h3, h4, h5, c, h6⟩ => c.elim⟩
end
/-- a def of the text in the written part -/
structure DefK (K : PySem.W.Frag) (x : Str) (st : Stmt) : Prop where
  ex : ∃ (f : Addr) (od an : Option Addr) (sl : Array (Option Value)) (oc kV dc pm cd ct : Value), PySem.W.nsIn K mainGlobals x = some (some (.ref f)) ∧
    K.lookup f = some ⟨oc, od, .func (PySem.W.fnOf x x (defArgs st) (defBody st) (defScope st) .none kV dc pm an cd ct), sl⟩ ∧ PySem.W.codeIn K cd x = true ∧ PySem.W.keepIn K (.ref f) = true
theorem DefK.mk4 {K : PySem.W.Frag} {x : Str} {st : Stmt} {f : Addr} {od an : Option Addr} {sl : Array (Option Value)} {oc kV dc pm cd ct : Value} (a : PySem.W.nsIn K mainGlobals x = some (some (.ref f)))
    (l : K.lookup f = some ⟨oc, od, .func (PySem.W.fnOf x x (defArgs st) (defBody st) (defScope st) .none kV dc pm an cd ct), sl⟩) (c : PySem.W.codeIn K cd x = true) (kp : PySem.W.keepIn K (.ref f) = true) : DefK K x st := ⟨_, _, _, _, _, _, _, _, _, _, a, l, c, kp⟩
theorem DefK.fn {K : PySem.W.Frag} {h : Heap} {mg : Str → Option Value} {x : Str} {st : Stmt} (D : DefK K x st) (X : K.In h) (G : h.Ns mainGlobals mg) :
    ∃ (f : Addr) (od an : Option Addr) (sl : Array (Option Value)) (oc kV dc pm cd ct : Value), Fun K x x st f (PySem.W.fnOf x x (defArgs st) (defBody st) (defScope st) .none kV dc pm an cd ct) ∧ mg x = some (.ref f) ∧ PySem.W.keepIn K (.ref f) = true := by
  obtain ⟨f, od, an, sl, oc, kV, dc, pm, cd, ct, a, l, c, kp⟩ := D.ex
  exact ⟨f, od, an, sl, oc, kV, dc, pm, cd, ct, fun_mk l c kp, PySem.W.mg_of X G a, kp⟩
end DL
/-! DL: defs that stand, from their readings -/
namespace DL
open PySem PySem.Spec PyProof.Rows L2
section
variable {P : Program} {w : World} {K : PySem.W.Frag} {mg : Str → Option Value} {base h : Heap} {k : Nat} {ps N : List Str} {x : Str} {st : Stmt}
/-- how its arguments are bound -/
abbrev Bnd (x : Str) (st : Stmt) (ps : List Str) : Prop := ∀ (kV doc pm : Value) (an : Option Addr) (cdv ct : Value) (us : List Value), us.length = ps.length → bindArgs (PySem.W.fnOf x x (defArgs st) (defBody st) (defScope st) .none kV doc pm an cdv ct) ⟨us, []⟩ = pure (ps.zip us)
/-- its body over data -/
abbrev Bdy (P : Program) (w : World) (K : PySem.W.Frag) (mg : Str → Option Value) (base : Heap) (k : Nat) (N : List Str) (x : Str) (st : Stmt) (c : DS → Prop) : Prop :=
  ∀ (f : Addr) (cdv : Value) (A : Around) (outer : List Env) (s : Shared) (H : Hp) (E : XK), (A.deeper (envOfC x (defScope st) s.heap.objs.size f cdv)).guards = some [] → Room k (A.deeper (envOfC x (defScope st) s.heap.objs.size f cdv)) →
    ∃ wd, XSs (cxOf CX0 P w K mg base N x (defScope st) f cdv A outer s H E).nox (defBody st) wd ∧ c wd
theorem caD {sp : DSp} (D : DefK K x st) (X : K.In h) (G : h.Ns mainGlobals mg) (Sc : FnScope N ps (defScope st)) (b : Bnd x st ps) (len : ∀ ds Φ, sp ds Φ → ds.length = ps.length)
    (body : Bdy P w K mg base k N x st fun wd => ∀ ds Φ, sp ds Φ → wd (endD Φ) ⟨startE N (ds.map .d), []⟩) : Ca P w K mg base (k + 1) x ps (spD K sp) := by
  obtain ⟨f, od, an, sl, oc, kV, dc, pm, cd, ct, F, gm, kp⟩ := D.fn X G
  exact ⟨f, _, fn_D F Sc len (body f), gm, kp, F.binds b⟩
theorem caP {sp : DSpP} (D : DefK K x st) (X : K.In h) (G : h.Ns mainGlobals mg) (Sc : FnScope N ps (defScope st)) (b : Bnd x st ps) (len : ∀ ds q Φ, sp ds q Φ → ds.length + 1 = ps.length)
    (body : Bdy P w K mg base k N x st fun wd => ∀ ds q Φ, sp ds q Φ → wd (endP Φ) ⟨startE N (.pl :: ds.map .d), q⟩) : Ca P w K mg base (k + 1) x ps (spP K sp) := by
  obtain ⟨f, od, an, sl, oc, kV, dc, pm, cd, ct, F, gm, kp⟩ := D.fn X G
  exact ⟨f, _, fn_P F Sc len (body f), gm, kp, F.binds b⟩
theorem caL {sp : DSpL} (D : DefK K x st) (X : K.In h) (G : h.Ns mainGlobals mg) (Sc : FnScope N ps (defScope st)) (b : Bnd x st ps) (len : ∀ ds Φ, sp ds Φ → ds.length = ps.length)
    (body : Bdy P w K mg base k N x st fun wd => ∀ ds Φ, sp ds Φ → wd (endL Φ) ⟨startE N (ds.map .d), []⟩) : Ca P w K mg base (k + 1) x ps (spL K sp) := by
  obtain ⟨f, od, an, sl, oc, kV, dc, pm, cd, ct, F, gm, kp⟩ := D.fn X G
  exact ⟨f, _, fn_L F Sc len (body f), gm, kp, F.binds b⟩
theorem caS {sp : DSpS} (D : DefK K x st) (X : K.In h) (G : h.Ns mainGlobals mg) (Sc : FnScope N ps (defScope st)) (b : Bnd x st ps) (len : ps.length = 1)
    (body : Bdy P w K mg base k N x st fun wd => ∀ ns Φ, sp ns Φ → wd (endL Φ) ⟨startE N [.sc ns], []⟩) : Ca P w K mg base (k + 1) x ps (spS K sp) := by
  obtain ⟨f, od, an, sl, oc, kV, dc, pm, cd, ct, F, gm, kp⟩ := D.fn X G
  exact ⟨f, _, fn_S F Sc len (body f), gm, kp, F.binds b⟩
/-- a def that calls itself, a promise for each depth -/
theorem caRecD {sp : Nat → DSp} {U : DSp} {n k0 : Nat} (D : DefK K x st) (X : K.In h) (G : h.Ns mainGlobals mg) (Sc : FnScope N ps (defScope st)) (b : Bnd x st ps) (len : ∀ d ds Φ, sp d ds Φ → ds.length = ps.length) (hU : ∀ ds Φ, U ds Φ → ∃ d, d ≤ n ∧ sp d ds Φ)
    (body : ∀ (d : Nat) (rc : DSp), (∀ e, d = e + 1 → rc = sp e) → ∀ l : Nat, l ≤ k0 + d → Ca P w K mg base l x ps (spD K rc) → Bdy P w K mg base (k0 + d) N x st fun wd => ∀ ds Φ, sp d ds Φ → wd (endD Φ) ⟨startE N (ds.map .d), []⟩) : Ca P w K mg base (k0 + n + 1) x ps (spD K U) := by
  obtain ⟨f, od, an, sl, oc, kV, dc, pm, cd, ct, F, gm, kp⟩ := D.fn X G
  have go : ∀ d, FnG P w K mg base CX0 (k0 + d + 1) f (PySem.W.fnOf x x (defArgs st) (defBody st) (defScope st) .none kV dc pm an cd ct) ps (spD K (sp d)) := by
    intro d
    induction d with
    | zero => exact fn_D F Sc (len 0) (body 0 (fun _ _ => False) (fun e z => by cases z) 0 (Nat.zero_le _) ⟨f, _, fng_noD, gm, kp, F.binds b⟩ f)
    | succ d ih => exact fn_D F Sc (len (d + 1)) (body (d + 1) (sp d) (fun e z => by cases z; rfl) (k0 + d + 1) (Nat.le_refl _) ⟨f, _, ih, gm, kp, F.binds b⟩ f)
  exact ⟨f, _, fng_unionD (n := n) (fun d hd => (go d).mono (by omega)) hU, gm, kp, F.binds b⟩
theorem caRecP {sp : Nat → DSpP} {U : DSpP} {n k0 : Nat} (D : DefK K x st) (X : K.In h) (G : h.Ns mainGlobals mg) (Sc : FnScope N ps (defScope st)) (b : Bnd x st ps) (len : ∀ d ds q Φ, sp d ds q Φ → ds.length + 1 = ps.length) (hU : ∀ ds q Φ, U ds q Φ → ∃ d, d ≤ n ∧ sp d ds q Φ)
    (body : ∀ (d : Nat) (rc : DSpP), (∀ e, d = e + 1 → rc = sp e) → ∀ l : Nat, l ≤ k0 + d → Ca P w K mg base l x ps (spP K rc) → Bdy P w K mg base (k0 + d) N x st fun wd => ∀ ds q Φ, sp d ds q Φ → wd (endP Φ) ⟨startE N (.pl :: ds.map .d), q⟩) : Ca P w K mg base (k0 + n + 1) x ps (spP K U) := by
  obtain ⟨f, od, an, sl, oc, kV, dc, pm, cd, ct, F, gm, kp⟩ := D.fn X G
  have go : ∀ d, FnG P w K mg base CX0 (k0 + d + 1) f (PySem.W.fnOf x x (defArgs st) (defBody st) (defScope st) .none kV dc pm an cd ct) ps (spP K (sp d)) := by
    intro d
    induction d with
    | zero => exact fn_P F Sc (len 0) (body 0 (fun _ _ _ => False) (fun e z => by cases z) 0 (Nat.zero_le _) ⟨f, _, fng_noP, gm, kp, F.binds b⟩ f)
    | succ d ih => exact fn_P F Sc (len (d + 1)) (body (d + 1) (sp d) (fun e z => by cases z; rfl) (k0 + d + 1) (Nat.le_refl _) ⟨f, _, ih, gm, kp, F.binds b⟩ f)
  exact ⟨f, _, fng_unionP (n := n) (fun d hd => (go d).mono (by omega)) hU, gm, kp, F.binds b⟩
/-- the law's own def -/
theorem caLaw {sx : Str} {yp p1 p2 cp pos : Pos} {rest : List Stmt} {fa : Addr} {kS : Nat} (D : DefK K "law" st) (X : K.In h) (G : h.Ns mainGlobals mg) (hfa : mg "law" = some (.ref fa)) (Sc : FnScope N ["script"] (defScope st)) (hN : 2 ≤ N.length)
    (hb0 : defBody st = .Assign [.Name "pool" yp] (.Call (.Name sx p1) [.Name "script" p2] [] cp) pos :: rest) (hk : kS ≤ k)
    (bd : ∀ (s : Shared) (v : Value) (kV dc pm : Value) (an : Option Addr) (cd ct : Value), BindsTo s (PySem.W.fnOf "law" "law" (defArgs st) (defBody st) (defScope st) .none kV dc pm an cd ct) ⟨[v], []⟩ [("script", v)])
    (C : ∀ base, BmOk mg base → Ca P w K mg base kS sx ["script"] (spS K spStream))
    (head : ∀ base, BmOk mg base → ∀ (f : Addr) (cdv : Value) (A : Around) (outer : List Env) (s : Shared) (H : Hp) (E : XK) (fS : Addr) (fdS : FuncData), FnG P w K mg base CX0 kS fS fdS ["script"] (spS K spStream) → mg sx = some (.ref fS) → PySem.W.keepIn K (.ref fS) = true → Binds K fdS ["script"] [] →
      (A.deeper (envOfC "law" (defScope st) s.heap.objs.size f cdv)).guards = some [] → Room k (A.deeper (envOfC "law" (defScope st) s.heap.objs.size f cdv)) →
      PS (cxOf CX0 P w K mg base N "law" (defScope st) f cdv A outer s H E).nox (.Assign [.Name "pool" yp] (.Call (.Name sx p1) [.Name "script" p2] [] cp) pos) (tAsg (tCall (spS K spStream) [] E0 (tCons (tVar 0) tNil)) (gName 1)))
    (body : ∀ base, BmOk mg base → ∀ (f : Addr) (cdv : Value) (A : Around) (outer : List Env) (s : Shared) (H : Hp) (E : XK), (A.deeper (envOfC "law" (defScope st) s.heap.objs.size f cdv)).guards = some [] → Room k (A.deeper (envOfC "law" (defScope st) s.heap.objs.size f cdv)) →
      ∃ wd, XSs (cxOf CX0 P w K mg base N "law" (defScope st) f cdv A outer s H E).nox rest wd ∧ ∀ ns q, PoolOk q → wd endTrue ⟨(startE N [.sc ns]).set 1 .pl, q⟩) :
    ∃ fd : FuncData, (∀ (s : Shared) (v : Value), BindsTo s fd ⟨[v], []⟩ [("script", v)]) ∧ ∀ base : Heap, BmOk mg base → FnG P w K mg base CX0 (k + 1) fa fd ["script"] (spLaw K) := by
  obtain ⟨f, od, an, sl, oc, kV, dc, pm, cd, ct, F, gm, kp⟩ := D.fn X G
  cases hfa.symm.trans gm
  refine ⟨_, fun s v => bd s v kV dc pm an cd ct, fun base hbm => ?_⟩
  obtain ⟨fS, fdS, FS, gS, kS', bS⟩ := (C base hbm).ex
  exact fn_law F Sc hN hb0 FS gS kS' bS hk (fun cdv A outer s H E g r => head base hbm fa cdv A outer s H E fS fdS FS gS kS' bS g r) (body base hbm fa)
end
end DL
/-! DL: own errors: raise, defs that may raise, calls of them -/
namespace DL
open PySem PySem.Spec PyProof.Rows L2
/-- an own class of errors without an __init__ of its own: its name stands for it -/
structure ExC (K : PySem.W.Frag) (mg : Str → Option Value) (x : Str) : Prop where
  ex : ∃ C, mg x = some (.ref C) ∧ PySem.W.keepIn K (.ref C) = true ∧ (∃ (B newId initId : String) (bmB : List Value), ExcBaseFacts B newId initId bmB ∧ PySem.W.excIn K C bmB newId = true) ∧
    PySem.W.subIn K (.ref C) (.type "BaseException") = some true ∧ PySem.W.typeIn K (.ref C) = some (.type "type")
section
variable {X : Cx} {C : Addr} {bmB : List Value} {B newId initId : String}
/-- X() -/
theorem pmk_own0 {x : Str} {p pos : Pos} (F : ExcBaseFacts B newId initId bmB) (q : PySem.W.excIn X.K C bmB newId = true) (gC : X.mg x = some (.ref C)) (kC : PySem.W.keepIn X.K (.ref C) = true) (r : Raises X (.ref C)) (hg : Gl X x)
    (hdb : (x == ("__debug__" : Str)) = false := by decide) : PMk X (.Call (.Name x p) [] [] pos) (fun _ H Q => Q (.ref C) none H) := by
  intro pins s σ H Q I h
  refine wpAny_Call_Name_kw (ld_glob I hg gC ?_ hdb)
  refine PySem.W.callWith_K0 I.kIn kC ?_
  show wpAny _ _ (call (.ref C) []) _ _ _
  obtain ⟨bm, N, nm, qn, bs, hdct, sn, sub, ab, col, dd, k0, k1, k2, k3, k5, mN, hC, hN, hni, T⟩ := exc_obj I.kIn q
  refine wpAny_call_exc_subT F T hC hN hni (fun h' e hm => ?_) (by show 0 ≤ sizeLine; exact Nat.zero_le _)
  exact mk_of I hm r h (I.hok.gone hm.new)
@[simp] def wRaise (c : Str) : DS := fun Φ s => Φ.ex c [] s
theorem xs_raise0 {x : Str} {p p2 pos : Pos} (hc : X.calm = true) (T : ExC X.K X.mg x) (hg : Gl X x) (hdb : (x == ("__debug__" : Str)) = false := by decide) : XS X (.Raise (some (.Call (.Name x p) [] [] p2)) none pos) (wRaise x) := by
  obtain ⟨C, gC, kC, ⟨B, newId, initId, bmB, F, q⟩, h1, h2⟩ := T.ex
  exact ps_imp (ps_raise hc (takes_wish X) (pmk_own0 F q gC kC (raises_own h1 h2) hg hdb)) fun D σ H h => by
    obtain ⟨G, P, F, s, Φ, R, h, b⟩ := h
    exact (b.ex x [] σ F H s R (Same.refl F) h C gC).1 rfl
end
/-! promises of defs that may raise -/
/-- the wish of a def's errors, over data -/
def EX (K : PySem.W.Frag) (mg : Str → Option Value) (E : XK) (c : Str) (xs : List PyData) (F H : Hp) : Prop := Wsh mg (fun cls d => E cls d H) c xs F
abbrev DSpX := List PyData → (PyData → Prop) → (Str → List PyData → Prop) → Prop
def spX (K : PySem.W.Frag) (mg : Str → Option Value) (f : DSpX) : Sp := fun vs H Q E => ∃ F ds Φ Ψ, (Same F H ∧ TabsF K F H) ∧ DqA K F vs ds ∧ f ds Φ Ψ ∧ (∀ v F' H' x, Fresh F H F' H' → Dq K F' v x → Φ x → Q v H') ∧ ∀ c xs F' H', Fresh F H F' H' → Ψ c xs → EX K mg E c xs F' H'
@[simp] def endX (Φ : PyData → Prop) (Ψ : Str → List PyData → Prop) : EN := { nx := fun _ => Φ .none, rt := fun x _ => Φ x, ex := fun c xs _ => Ψ c xs }
section
variable {P : Program} {w : World} {K : PySem.W.Frag} {mg : Str → Option Value} {base : Heap} {k : Nat} {f : Addr} {fd : FuncData} {ps : List Str} {qual x : Str} {st : Stmt} {N : List Str}
theorem fn_XC {sp : DSpX} (F : Fun K x qual st f fd) (Sc : FnScope N ps (defScope st)) (len : ∀ ds Φ Ψ, sp ds Φ Ψ → ds.length = ps.length)
    (hbody : ∀ (cdv : Value), fd.code = cdv → ∀ (A : Around) (outer : List Env) (s : Shared) (H : Hp) (E : XK), (A.deeper (envOfC qual (defScope st) s.heap.objs.size f cdv)).guards = some [] → Room k (A.deeper (envOfC qual (defScope st) s.heap.objs.size f cdv)) →
      ∃ wd, XSs (cxOf (L2.CX P w) P w K mg base N qual (defScope st) f cdv A outer s H E) (defBody st) wd ∧ ∀ ds Φ Ψ, sp ds Φ Ψ → wd (endX Φ Ψ) ⟨startE N (ds.map .d), []⟩) : FnG P w K mg base (L2.CX P w) (k + 1) f fd ps (spX K mg sp) := by
  refine fng_of F Sc (fun vs H Q E h => ?_) (fun cdv hc A outer s H vs Q E g hr h => ?_)
  · obtain ⟨F, ds, Φ, Ψ, _, d, hs, _⟩ := h
    rw [d.length]
    exact len ds Φ Ψ hs
  · obtain ⟨wd, hX, hw⟩   := hbody cdv hc A outer s H E g hr
    refine ⟨_, hX, ?_⟩
    obtain ⟨F, ds, Φ, Ψ, e, d, hs, kk, kx⟩ := h
    have fr : ∀ {σ' : L2.St} {F' H' : Hp} {s' : S}, Rep K (partH F H none) none F' H' σ' s' → Same F F' → Fresh F H F' H' := fun {σ' F' H' s'} R ee => fresh_of e R ee
    have tk : Takes (cxOf (L2.CX P w) P w K mg base N qual (defScope st) f cdv A outer s H E) (fun cls d _ H => E cls d H) := takes_of rfl rfl rfl rfl
    refine ⟨_, none, F, _, _, rep_startD e d [], hw ds Φ Ψ hs, fun σ' F' H' s' R ee q => kk _ F' H' .none (fr R ee) .non q, fun v σ' F' H' s' x R ee dx q => kk v F' H' x (fr R ee) dx q, fun _ _ _ _ _ _ q => q.elim, fun _ _ _ _ _ _ q => q.elim, fun _ _ _ _ _ _ _ _ _ _ _ _ q => q.elim, fun c xs σ' F' H' s' R ee q => ?_⟩
    exact Wsh.imp (kx c xs F' H' (fr R ee) q) fun cls d z => wish_of tk z
theorem fn_X {sp : DSpX} (F : Fun K x qual st f fd) (Sc : FnScope N ps (defScope st)) (len : ∀ ds Φ Ψ, sp ds Φ Ψ → ds.length = ps.length)
    (hbody : ∀ (cdv : Value) (A : Around) (outer : List Env) (s : Shared) (H : Hp) (E : XK), (A.deeper (envOfC qual (defScope st) s.heap.objs.size f cdv)).guards = some [] → Room k (A.deeper (envOfC qual (defScope st) s.heap.objs.size f cdv)) →
      ∃ wd, XSs (cxOf (L2.CX P w) P w K mg base N qual (defScope st) f cdv A outer s H E) (defBody st) wd ∧ ∀ ds Φ Ψ, sp ds Φ Ψ → wd (endX Φ Ψ) ⟨startE N (ds.map .d), []⟩) : FnG P w K mg base (L2.CX P w) (k + 1) f fd ps (spX K mg sp) := fn_XC F Sc len fun cdv _ => hbody cdv
end
/-! calls of them, as x = f(..), return f(..), f(..) -/
def tCallX (sp : Sp) (W : WX) (t : TA) : TE := fun σ H Q => t σ H fun vs H1 => sp vs H1 Q (WE W σ)
section
variable {X : Cx} {k : Nat} {f : Addr} {fd : FuncData} {ps : List Str} {sp : Sp} {x : Str} {p pos : Pos} {e : Expr} {es : List Expr} {t : TA} {W : WX}
theorem pe_callX (F : FnG X.prog X.w X.K X.mg X.base (L2.CX X.prog X.w) k f fd ps sp) (hgd : X.A.guards = some []) (hr : Room k X.A) (hg : Gl X x) (hm : X.mg x = some (.ref f)) (hk : PySem.W.keepIn X.K (.ref f) = true) (hb : Binds X.K fd ps []) (tk : Takes X W)
    (ha : PA X (e :: es) t) (hdb : (x == ("__debug__" : Str)) = false := by decide) (he : starEach (e :: es) X.env = (false, eval e X.env) :: starEach es X.env := by rfl) (hpl : (backTo pos (starEach es X.env)).any (·.1) = false := by rfl) :
    PE X (.Call (.Name x p) (e :: es) [] pos) (tCallX sp W t) := by
  refine ⟨fun pins s σ H Q I h => wpAny_Call_Name_kw (ld_glob I hg hm (PySem.W.callWith_K (h₀ := X.base) I.ok.mod.kin hk (thn (ha.run pos pins s σ H _ I h) fun us s1 ⟨vs, H1, J, r, q⟩ => ⟨J.kIn, ?_⟩) he hpl) hdb)⟩
  have rr : Vals (vs ++ []) (us ++ []) := r.append .nil
  rw [List.append_nil, List.append_nil] at rr
  have bb := hb s1 us J.kIn (by rw [List.append_nil, ← rr.length]; exact F.len _ _ _ _ q)
  rw [List.append_nil] at bb
  refine wpAny_call (codeAny_mono (F.go X.A X.stack s1 H1 ⟨us, []⟩ us vs Q (WE W σ) hgd hr J.env0 bb rr q) fun r s' hq => ?_)
  match r, hq with
  | .error e, hq => exact passAt tk σ pins H1 s1 e s' J hq
  | .ok (.ret u), hq => exact J.after hq
  | .ok .next, hq => exact hq.elim
  | .ok .brk, hq => exact hq.elim
  | .ok .cont, hq => exact hq.elim
end
end DL
/-! DL: x = f(..), return f(..) of defs that may raise; try .. except X: -/
namespace DL
open PySem PySem.Spec PyProof.Rows L2
/-- a wish of the kit's as one over data -/
def wW (K : PySem.W.Frag) (mg : Str → Option Value) (W : WX) : XWish := fun c xs F σ H => Wsh mg (fun cls d => W cls d σ H) c xs F
theorem wW_X {X : Cx} {W : WX} (tk : Takes X W) {c : Str} {xs : List PyData} {F : Hp} {σ : L2.St} {H : Hp} (h : wW X.K X.mg W c xs F σ H) : wX X c xs F σ H := Wsh.imp h fun cls d z => wish_of tk z
theorem Beh.wish {K : PySem.W.Frag} {G F : Hp} {P : Option Addr} {Φ : EN} {D : Ends} {W W' : XWish} (b : Beh K G P F Φ D W) (h : ∀ c xs F σ H, W c xs F σ H → W' c xs F σ H) : Beh K G P F Φ D W' :=
  ⟨b.nx, b.rt, b.bk, b.ct, b.rl, fun c xs σ' F' H' s' R e q => h _ _ _ _ _ (b.ex c xs σ' F' H' s' R e q)⟩
theorem tS_wish {K : PySem.W.Frag} {W W' : XWish} {w : DS} (h : ∀ c xs F σ H, W c xs F σ H → W' c xs F σ H) {D : Ends} {σ : L2.St} {H : Hp} (t : tS K W w D σ H) : tS K W' w D σ H := by
  obtain ⟨G, P, F, s, Φ, R, q, b⟩ := t
  exact ⟨G, P, F, s, Φ, R, q, b.wish h⟩
section
variable {X : Cx} {k i : Nat} {f : Addr} {fd : FuncData} {ps : List Str} {sp : DSpX} {x y : Str} {p pos pos2 yp : Pos} {e : Expr} {es : List Expr} {wa : DA}
theorem callX_of {G F H : Hp} {P : Option Addr} {σ : L2.St} {s : S} {Q : VK} {Φr : PyData → S → Prop} {Φx : Str → List PyData → S → Prop} (R : Rep X.K G P F H σ s) (h : wa s fun ds s1 => sp ds (fun r => Φr r s1) fun c xs => Φx c xs s1)
    (kr : ∀ v F' H' s' x, Rep X.K G P F' H' σ s' → Same F F' → Dq X.K F' v x → Φr x s' → Q v H') (kx : ∀ c xs F' H' s', Rep X.K G P F' H' σ s' → Same F F' → Φx c xs s' → wX X c xs F' σ H') :
    tCallX (spX X.K X.mg sp) (wishOf X) (tA X.K wa) σ H Q := by
  refine ⟨G, P, F, s, _, R, h, fun vs F1 H1 s1 ds R1 e1 d1 q => ?_⟩
  refine ⟨F1, ds, _, _, ⟨R1.same, R1.tabF⟩, d1, q, fun v F' H' x fr dx qx => kr v F' H' s1 x (R1.fresh fr) (e1.trans fr.ff) dx qx, fun c xs F' H' fr qx => ?_⟩
  exact kx c xs F' H' s1 (R1.fresh fr) (e1.trans fr.ff) qx
@[simp] def wRetX (sp : DSpX) (wa : DA) : DS := fun Φ s => wa s fun ds s1 => sp ds (fun r => Φ.rt r s1) fun c xs => Φ.ex c xs s1
theorem xs_retX (F : FnG X.prog X.w X.K X.mg X.base (L2.CX X.prog X.w) k f fd ps (spX X.K X.mg sp)) (hgd : X.A.guards = some []) (hr : Room k X.A) (hg : Gl X x) (hm : X.mg x = some (.ref f)) (hk : PySem.W.keepIn X.K (.ref f) = true) (hb : Binds X.K fd ps [])
    (ha : XA X (e :: es) wa) (hdb : (x == ("__debug__" : Str)) = false := by decide) (he : starEach (e :: es) X.env = (false, eval e X.env) :: starEach es X.env := by rfl) (hpl : (backTo pos (starEach es X.env)).any (·.1) = false := by rfl) :
    XS X (.Return (some (.Call (.Name x p) (e :: es) [] pos)) pos2) (wRetX sp wa) := ps_imp (ps_ret (pe_callX F hgd hr hg hm hk hb (takes_wish X) ha hdb he hpl)) fun D σ H h => by
  obtain ⟨G, P, F, s, Φ, R, h, b⟩ := h
  exact callX_of R h (fun v F' H' s' x R' e d q => b.rt v σ F' H' s' x R' e d q) fun c xs F' H' s' R' e q => b.ex c xs σ F' H' s' R' e q
@[simp] def wSetX (i : Nat) (sp : DSpX) (wa : DA) : DS := fun Φ s => wa s fun ds s1 => sp ds (fun r => Φ.nx (s1.put i (.d r))) fun c xs => Φ.ex c xs s1
theorem xs_setX (hN : X.N.Nodup) (hi : X.N[i]? = some y) (hx : Loc X.env.scope y) (F : FnG X.prog X.w X.K X.mg X.base (L2.CX X.prog X.w) k f fd ps (spX X.K X.mg sp)) (hgd : X.A.guards = some []) (hr : Room k X.A) (hg : Gl X x) (hm : X.mg x = some (.ref f)) (hk : PySem.W.keepIn X.K (.ref f) = true) (hb : Binds X.K fd ps [])
    (ha : XA X (e :: es) wa) (hdb : (x == ("__debug__" : Str)) = false := by decide) (he : starEach (e :: es) X.env = (false, eval e X.env) :: starEach es X.env := by rfl) (hpl : (backTo pos (starEach es X.env)).any (·.1) = false := by rfl)
    (hs : swapsWith (.Call (.Name x p) (e :: es) [] pos) (some (.Name y yp)) pos2.line X.env = pure false := by rfl)
    (hf : X.fn y = true ∨ X.env.scope.names.lookup y = some .local := by first | exact .inl rfl | exact .inr rfl | assumption) :
    XS X (.Assign [.Name y yp] (.Call (.Name x p) (e :: es) [] pos) pos2) (wSetX i sp wa) := ps_imp (ps_set hN hi hx (pe_callX F hgd hr hg hm hk hb (takes_wish X) ha hdb he hpl) hs hf) fun D σ H h => by
  obtain ⟨G, P, F, s, Φ, R, h, b⟩ := h
  exact callX_of (Φr := fun r s1 => Φ.nx (s1.put i (.d r))) R h (fun v F' H' s' x R' e d q => b.nx _ F' H' _ (R'.setD d) e q) fun c xs F' H' s' R' e q => b.ex c xs σ F' H' s' R' e q
end
/-! try: .. except X: .. -/
/-- tbl tells of each class that may come whether the clause takes it -/
@[simp] def wTry (tbl : List (Str × Bool)) (wb ws : DS) : DS := fun Φ s => wb { nx := Φ.nx, rt := Φ.rt, bk := Φ.bk, ct := Φ.ct, rl := Φ.rl, ex := fun c xs s' => xs.length ≤ 1 ∧ ∃ b, (c, b) ∈ tbl ∧ (if b = true then ws { nx := Φ.nx, rt := Φ.rt, bk := Φ.bk, ct := Φ.ct, rl := Φ.rl } s' else Φ.ex c xs s') } s
def noX : XWish := fun _ _ _ _ _ => False
section
variable {X : Cx} {x : Str} {cv : Value} {body suite : List Stmt} {b₀ : Stmt} {np pos pos' : Pos} {wb ws : DS} {tbl : List (Str × Bool)}
theorem xs_try_only (hs : X.stack = X.env :: X.outer) (hf : X.env.frame = some X.env.locals) (hc : Names X x cv) (ht : ∀ c b, (c, b) ∈ tbl → ∀ C, X.mg c = some (.ref C) → PySem.W.exmOne X.K (.ref C) cv = some b)
    (hb : ∀ (pn : List (Addr × Obj)) (xe : Value → Shared → Prop), PassesOwn (model X.prog X.w) X.A X.env xe → XSs (X.tr pn xe) body wb)
    (hsu : ∀ (a : Addr) (pn : List (Addr × Obj)), XSs (X.suite a pn) (b₀ :: suite) ws) :
    XS X (.Try body [.ExceptHandler (some (.Name x np)) none (b₀ :: suite) pos'] [] [] pos) (wTry tbl wb ws) :=
  ps_imp (ps_try_only (tb := fun W => tS X.K (wW X.K X.mg W) wb) (ts := fun _ _ _ => tS X.K noX ws) hs hf hc (takes_wish X)
    (fun W pn xe tk pa => pss_imp (hb pn xe pa) fun D σ H t => tS_wish (fun c xs F σ H q => wW_X tk q) t)
    (fun a oe cls d pn _ _ => pss_imp (hsu a ((a, oe) :: pn)) fun D σ H t => tS_wish (fun c xs F σ H q => q.elim) t)) fun D σ H h => by
  obtain ⟨G, P, F, s, Φ, R, h, b⟩ := h
  refine ⟨G, P, F, s, _, R, h, ⟨b.nx, b.rt, b.bk, b.ct, b.rl, fun c xs σ' F' H' s' R' e q => ?_⟩⟩
  obtain ⟨hl, bb, hm, q⟩ := q
  refine fun C gC => ?_
  have em := ht c bb hm C gC
  have yes : bb = true → tS X.K noX ws D σ' H' := fun e2 => by
    rw [if_pos e2] at q
    exact ⟨G, P, F', s', _, R', q, ⟨(b.up e).nx, (b.up e).rt, (b.up e).bk, (b.up e).ct, (b.up e).rl, fun _ _ _ _ _ _ _ _ z => z.elim⟩⟩
  have no : bb = false → wX X c xs F' σ' H' := fun e2 => by
    rw [if_neg (by rw [e2]; decide)] at q
    exact b.ex c xs σ' F' H' s' R' e q
  exact ⟨fun e3 => ⟨bb, em, fun e2 a _ => yes e2, fun e2 => (no e2 C gC).1 e3⟩, fun e3 d fs hd dv => ⟨bb, em, fun e2 a _ => yes e2, fun e2 => (no e2 C gC).2 e3 d fs hd dv⟩⟩
end
end DL
/-! DL: a caught error: isinstance, handed to a def -/
namespace DL
open PySem PySem.Spec PyProof.Rows L2
/-- a reference that is handed on as it is -/
abbrev excD (a : Addr) : PyData := .dict [(.none, .int (a : Nat))]
/-- the error at a, of the class D, that is under way in a context -/
structure Held1 (K : PySem.W.Frag) (D : Addr) (p : Addr × Obj) : Prop where
  cls : ExcC K D
  z : Zc (.ref D) none p.2
  f : ∃ vs, p.2.data = .fields vs
@[simp] def wIsE (a : Addr) (b : Bool) (w : DE) : DE := fun s Φ => w s fun x s1 => x = excD a ∧ Φ (.bool b) s1
section
variable {X : Cx} {D : Addr} {p0 : Addr × Obj} {pn : List (Addr × Obj)} {e : Expr} {pos : Pos}
theorem isE_of {v : V} {cv : Value} {b : Bool} {w : DE} (hcv : ∀ u, RelV v u → u = cv) (kb : PySem.W.kitOne X.K (.ref D) cv = some b) (σ : L2.St) (H : Hp) (Q : VK) (h : tE X.K (wIsE p0.1 b w) σ H Q) :
    tE X.K w σ H fun y H1 => (tCons (tC v) tNil) σ H1 fun vs H2 => rIsE X.K D p0.1 (y :: vs) H2 Q := by
  obtain ⟨G, P, F, s, Φ, R, h, k⟩ := h
  refine ⟨G, P, F, s, _, R, h, fun y F1 H1 s1 x R1 e1 d1 q => ?_⟩
  obtain ⟨ex, q⟩ := q
  rw [ex] at d1
  cases d1
  exact ⟨v, cv, b, rfl, hcv, kb, k _ F1 H1 s1 _ R1 e1 (.bl b) q⟩
/-- isinstance(e, C), C an own class -/
theorem xe_isE {T : Str} {C : Addr} {p p1 : Pos} {b : Bool} {w : DE} (E : Held1 X.K D p0) (kb : PySem.W.kitOne X.K (.ref D) (.ref C) = some b) (gC : X.mg T = some (.ref C)) (hg : Gl (X.suite p0.1 (p0 :: pn)) "isinstance") (hm : X.mg "isinstance" = none) (hgT : Gl (X.suite p0.1 (p0 :: pn)) T)
    (h : XE (X.suite p0.1 (p0 :: pn)) e w) (hd : (T == ("__debug__" : Str)) = false := by decide)
    (he : starEach [e, .Name T p1] X.env = (false, eval e X.env) :: starEach [.Name T p1] X.env := by rfl) (he2 : starEach [.Name T p1] X.env = (false, eval (.Name T p1) X.env) :: starEach [] X.env := by rfl) (hpl : (backTo pos (starEach [.Name T p1] X.env)).any (·.1) = false := by rfl) :
    XE (X.suite p0.1 (p0 :: pn)) (.Call (.Name "isinstance" p) [e, .Name T p1] [] pos) (wIsE p0.1 b w) :=
  pe_imp (pe_callB (call_isE E.cls E.z E.f) hg hm (by decide +kernel) (pa_cons h (pa_cons (pe_glob (v := .ref C) hgT gC rfl hd) pa_nil he2) he) (by decide) (by decide) he hpl) fun σ H Q h => isE_of (v := .ref C) (cv := .ref C) (fun u z => z) kb σ H Q h
/-- isinstance(e, T), T of the builtins -/
theorem xe_isET {T : Str} {n : String} {p p1 : Pos} {b : Bool} {w : DE} (E : Held1 X.K D p0) (kb : PySem.W.kitOne X.K (.ref D) (.type n) = some b) (hmT : X.mg T = none) (hvT : bootBuiltins T = some (.type n)) (hg : Gl (X.suite p0.1 (p0 :: pn)) "isinstance") (hm : X.mg "isinstance" = none) (hgT : Gl (X.suite p0.1 (p0 :: pn)) T)
    (h : XE (X.suite p0.1 (p0 :: pn)) e w) (hn : T ≠ "__name__" := by decide) (hd : (T == ("__debug__" : Str)) = false := by decide)
    (he : starEach [e, .Name T p1] X.env = (false, eval e X.env) :: starEach [.Name T p1] X.env := by rfl) (he2 : starEach [.Name T p1] X.env = (false, eval (.Name T p1) X.env) :: starEach [] X.env := by rfl) (hpl : (backTo pos (starEach [.Name T p1] X.env)).any (·.1) = false := by rfl) :
    XE (X.suite p0.1 (p0 :: pn)) (.Call (.Name "isinstance" p) [e, .Name T p1] [] pos) (wIsE p0.1 b w) :=
  pe_imp (pe_callB (call_isE E.cls E.z E.f) hg hm (by decide +kernel) (pa_cons h (pa_cons (pe_bltn (v := .ty n) hgT hmT hvT rfl hn hd) pa_nil he2) he) (by decide) (by decide) he hpl) fun σ H Q h => isE_of (v := .ty n) (cv := .type n) (fun u z => z) kb σ H Q h
end
theorem bb_ValueError : bootBuiltins "ValueError" = some (.type "ValueError") := by decide +kernel
/-- what a def promises that is handed the error under way and tells b of it -/
structure FnE (P : Program) (w : World) (K : PySem.W.Frag) (mg : Str → Option Value) (base : Heap) (k : Nat) (f : Addr) (fd : FuncData) (ps : List Str) (D : Addr) (b : Bool) : Prop where
  len : ps.length = 1
  go : ∀ (A : Around) (outer : List Env) (s : Shared) (H : Hp) (Q : VK) (E : XK) (p : Addr × Obj), L2H.RoomH k A → A.handled = some (.ref p.1) → Held1 K D p → L2H.PinOk outer H s p → Env0 P w K mg base A outer s H → BindsTo s fd ⟨[.ref p.1], []⟩ (ps.zip [.ref p.1]) →
    spD K (fun ds Φ => ds = [excD p.1] ∧ Φ (.bool b)) [.ref p.1] H Q E → codeAny (model P w) A (.call (.ref f) ⟨[.ref p.1], []⟩) (CR CX0 outer P w H s Q E) s
section
variable {P : Program} {w : World} {K : PySem.W.Frag} {mg : Str → Option Value} {base : Heap} {k : Nat} {f D : Addr} {fd : FuncData} {ps : List Str} {b : Bool}
theorem hot_ctx {N : List Str} {qual : Str} {scope : Scope} {cdv : Value} {A : Around} {outer : List Env} {s : Shared} {H : Hp} {E : XK} {p : Addr × Obj} (hh : A.handled = some (.ref p.1)) :
    (L2H.cxH CX0 P w K mg base N qual scope f cdv A outer s H E p).nox = (cxOf CX0 P w K mg base N qual scope f cdv A outer s H E).suite p.1 [p] := by

  cases A
  dsimp only at hh
  subst hh
  rfl
theorem fn_E {qual x : Str} {st : Stmt} {N : List Str} (F : Fun K x qual st f fd) (Sc : FnScope N ps (defScope st)) (len : ps.length = 1)
    (hbody : ∀ (cdv : Value) (A : Around) (outer : List Env) (s : Shared) (H : Hp) (E : XK) (p : Addr × Obj), Held1 K D p →
      ∃ wd, XSs ((cxOf CX0 P w K mg base N qual (defScope st) f cdv A outer s H E).suite p.1 [p]) (defBody st) wd ∧ ∀ Φ : PyData → Prop, Φ (.bool b) → wd (endD Φ) ⟨startE N [.d (excD p.1)], []⟩) : FnE P w K mg base (k + 1) f fd ps D b := by
  obtain ⟨oc, od, kV, doc, pm, an, cdv, ct, osl, rfl, lk, hcd⟩ := F.ex
  refine ⟨len, fun A outer s H Q E p hr hot hE hpin z hb hsp => ?_⟩
  have names : ∀ y ∈ ps.zip [Value.ref p.1], (defScope st).names.lookup y.1 = some .local ∨ ((defScope st).names.lookup y.1 = some .cell ∧ ((cellsFrom (s.heap.objs.size + 1) (defScope st).names []).lookup y.1).isSome = true) := by
    rintro ⟨n, v⟩ hy
    rcases Sc.par n (List.of_mem_zip hy).1 with q | q
    · exact Or.inl q
    · exact Or.inr ⟨q, PySem.W.cellsFrom_some _ _ _ (Or.inl q)⟩
  have kin : K.In s.heap := z.mod.kin.keeps fun b o e => (z.bs b o e).1
  have nolim : s.heap.NoLimit := z.mod.nolimit.keeps fun b o e => (z.bs b o e).1
  refine codeAny_call_function hr.depth (kin _ _ lk) rfl Sc.co Sc.gen rfl (PySem.W.codeRec_of kin hcd) (hb _ _ _ _ (wpAny_newFunctionEnv_cells Sc.kind names fun env he s1 y => ?_))
  subst he
  obtain ⟨wd, hX, hw⟩ := hbody cdv A outer s H E p hE
  rw [← hot_ctx hot] at hX
  obtain ⟨F, ds, Φ, e, d, ⟨hds, hs⟩, kk⟩ := hsp
  subst hds
  have r : Vals [V.ref p.1] [Value.ref p.1] := .cons rfl .nil
  have fr : ∀ {σ' : L2.St} {F' H' : Hp} {s' : S}, Rep K (partH F H none) none F' H' σ' s' → Same F F' → Fresh F H F' H' := fun {σ' F' H' s'} R ee => fresh_of e R ee
  have start : tS K (wX (L2H.cxH CX0 P w K mg base N qual (defScope st) f cdv A outer s H E p).nox) wd { nx := fun _ H' => Q .non H', rt := Q } (L2.start N [V.ref p.1]) H :=
    ⟨_, none, F, _, _, rep_startD e d [], hw Φ hs, ⟨fun σ' F' H' s' R ee q => kk _ F' H' .none (fr R ee) .non q, fun v σ' F' H' s' x R ee dx q => kk v F' H' x (fr R ee) dx q, fun _ _ _ _ _ _ q => q.elim, fun _ _ _ _ _ _ q => q.elim, fun _ _ _ _ _ _ _ _ _ _ _ _ q => q.elim, fun _ _ _ _ _ _ _ _ q => q.elim⟩⟩
  refine ⟨nolim.keeps y.toInCall.keep, codeAny_func (wpAny_mono (hX.nox.run [] s1 (L2.start N [V.ref p.1]) H _ (L2H.inv_startH Sc hpin z len.symm r y) start) (fun fl s' hs => ?_) fun e s' hs => hs)⟩
  cases fl with
  | ret u =>
    obtain ⟨v, σ', H', J, rv, q⟩ := hs
    exact (⟨v, H', J.os, J.bare, J.base, J.hok, rv, q⟩ : CE outer P w H s Q u s')
  | next =>
    obtain ⟨σ', H', J, q⟩ := hs
    exact (⟨V.non, H', J.os, J.bare, J.base, J.hok, rfl, q⟩ : CE outer P w H s Q .none s')
  | brk => exact hs.elim fun _ h => h.elim fun _ h => False.elim h.2
  | cont => exact hs.elim fun _ h => h.elim fun _ h => False.elim h.2
end
end DL
/-! DL: a caught error handed to a def; try .. except X as e -/
namespace DL
open PySem PySem.Spec PyProof.Rows L2
section
variable {X : Cx} {D : Addr} {p0 : Addr × Obj} {pn : List (Addr × Obj)} {e : Expr} {pos : Pos} {k : Nat} {f : Addr} {fd : FuncData} {ps : List Str} {x : Str} {p : Pos} {b : Bool} {w : DE}
def tCallE (K : PySem.W.Frag) (a : Addr) (b : Bool) (t : TA) : TE := fun σ H Q => t σ H fun vs H1 => vs = [V.ref a] ∧ spD K (fun ds Φ => ds = [excD a] ∧ Φ (.bool b)) [V.ref a] H1 Q E0
theorem pe_callE {t : TA} (F : FnE X.prog X.w X.K X.mg X.base k f fd ps D b) (E : Held1 X.K D p0) (hr : L2H.RoomH k X.A) (hg : Gl (X.suite p0.1 (p0 :: pn)) x) (hm : X.mg x = some (.ref f)) (hk : PySem.W.keepIn X.K (.ref f) = true) (hb : Binds X.K fd ps [])
    (ha : PA (X.suite p0.1 (p0 :: pn)) [e] t) (hdb : (x == ("__debug__" : Str)) = false := by decide) (he : starEach [e] X.env = (false, eval e X.env) :: starEach [] X.env := by rfl) (hpl : (backTo pos (starEach [] X.env)).any (·.1) = false := by rfl) :
    PE (X.suite p0.1 (p0 :: pn)) (.Call (.Name x p) [e] [] pos) (tCallE X.K p0.1 b t) := by
  refine ⟨fun pins s σ H Q I h => wpAny_Call_Name_kw (ld_glob I hg hm (PySem.W.callWith_K (h₀ := X.base) I.ok.mod.kin hk (thn (ha.run pos pins s σ H _ I h) fun us s1 ⟨vs, H1, J, r, ev, q⟩ => ⟨J.kIn, ?_⟩) he hpl) hdb)⟩
  subst ev
  have eu : us = [Value.ref p0.1] := by
    cases r with
    | cons r1 r2 =>
      cases r2
      have r1 : _ = Value.ref p0.1 := r1
      rw [r1]
  subst eu
  have bb := hb s1 [Value.ref p0.1] J.kIn (by rw [F.len]; rfl)
  rw [List.append_nil] at bb
  have P1 := J.pin p0 (List.mem_append_left _ List.mem_cons_self)
  have hpin : L2H.PinOk (X.suite p0.1 (p0 :: pn)).stack H1 s1 p0 := ⟨P1.1, P1.2.1, fun hm => (List.mem_cons.mp (J.stkSub p0.1 hm)).elim P1.2.2.1 P1.2.2.2.1, P1.2.2.2.2⟩
  refine wpAny_call (codeAny_mono (F.go (X.suite p0.1 (p0 :: pn)).A X.stack s1 H1 Q E0 p0 ⟨hr.dp, hr.un⟩ rfl E hpin J.env0 bb q) fun r s' hq => ?_)
  match r, hq with
  | .error e, hq => exact hq.elim
  | .ok (.ret u), hq => exact J.after hq
  | .ok .next, hq => exact hq.elim
  | .ok .brk, hq => exact hq.elim
  | .ok .cont, hq => exact hq.elim
@[simp] def wCallE (a : Addr) (b : Bool) (wa : DA) : DE := fun s Φ => wa s fun ds s1 => ds = [excD a] ∧ Φ (.bool b) s1
theorem xe_callE {wa : DA} (F : FnE X.prog X.w X.K X.mg X.base k f fd ps D b) (E : Held1 X.K D p0) (hr : L2H.RoomH k X.A) (hg : Gl (X.suite p0.1 (p0 :: pn)) x) (hm : X.mg x = some (.ref f)) (hk : PySem.W.keepIn X.K (.ref f) = true) (hb : Binds X.K fd ps [])
    (ha : XA (X.suite p0.1 (p0 :: pn)) [e] wa) (hdb : (x == ("__debug__" : Str)) = false := by decide) (he : starEach [e] X.env = (false, eval e X.env) :: starEach [] X.env := by rfl) (hpl : (backTo pos (starEach [] X.env)).any (·.1) = false := by rfl) :
    XE (X.suite p0.1 (p0 :: pn)) (.Call (.Name x p) [e] [] pos) (wCallE p0.1 b wa) := pe_imp (pe_callE F E hr hg hm hk hb ha hdb he hpl) fun σ H Q h => by
  obtain ⟨G, P, F, s, Φ, R, h, kk⟩ := h
  refine ⟨G, P, F, s, _, R, h, fun vs F1 H1 s1 ds R1 e1 d1 q => ?_⟩
  obtain ⟨eds, q⟩ := q
  subst eds
  cases d1 with
  | cons d2 d3 =>
    cases d3
    cases d2
    exact ⟨rfl, F1, [excD p0.1], fun r => Φ r s1, ⟨R1.same, R1.tabF⟩, .cons (.er _) .nil, ⟨rfl, q⟩, fun v F' H' x fr dx qx => kk v F' H' s1 x (R1.fresh fr) (e1.trans fr.ff) dx qx⟩
/-! try: .. except X as n: .. -/
/-- tbl tells of each class that may come whether the clause takes it; n's slot holds the error while the suite runs -/
@[simp] def wTryAs (i : Nat) (tbl : List (Str × Bool)) (wb : DS) (ws : Addr → DS) : DS := fun Φ s => wb { nx := Φ.nx, rt := Φ.rt, bk := Φ.bk, ct := Φ.ct, rl := Φ.rl, ex := fun c xs s' => xs = [] ∧ ∃ b, (c, b) ∈ tbl ∧
  (if b = true then ∀ a, ws a { nx := fun s2 => Φ.nx (s2.put i .un), rt := Φ.rt, bk := fun s2 => Φ.bk (s2.put i .un), ct := fun s2 => Φ.ct (s2.put i .un), rl := Φ.rl } (s'.put i (.d (excD a))) else Φ.ex c xs s') } s
theorem Rep.dropU {K : PySem.W.Frag} {G F H : Hp} {P : Option Addr} {σ : L2.St} {s : S} {i : Nat} (R : Rep K G P F H σ s) : Rep K G P F H (σ.set i none) (s.put i .un) := by
  refine ⟨R.same, R.keep, R.apart, fun j y hy => ?_, fun j k ys zs r hj hk e1 e2 => ?_, R.pool, put_len R.len, fun j k y z r hj hk hr jk oc => ?_, R.tab⟩
  · rcases set_get hy with ⟨rfl, rfl⟩ | ⟨ne, hy⟩
    · exact True.intro
    · have q := R.sl j y hy
      cases y with
      | un => exact True.intro
      | d y =>
        obtain ⟨u, a, b⟩ := q
        exact ⟨u, by rw [List.getElem?_set_ne (Ne.symm ne)]; exact a, b⟩
      | o ys =>
        obtain ⟨p', vs', g1, g2⟩ := q
        exact ⟨p', vs', by rw [List.getElem?_set_ne (Ne.symm ne)]; exact g1, g2⟩
      | pl =>
        obtain ⟨a, h1, h2⟩ := q
        exact ⟨a, h1, by rw [List.getElem?_set_ne (Ne.symm ne)]; exact h2⟩
      | sc ns =>
        obtain ⟨a, h1, h2⟩ := q
        exact ⟨a, by rw [List.getElem?_set_ne (Ne.symm ne)]; exact h1, h2⟩
      | tb p' qs xss => exact q.tbUp (List.getElem?_set_ne (Ne.symm ne)) (Same.refl F) fun r o hr g1 g2 g3 g4 => ⟨g1, g2, g3, g4⟩
  · rcases set_get hj with ⟨_, z⟩ | ⟨nj, hj⟩
    · cases z
    · rcases set_get hk with ⟨_, z⟩ | ⟨nk, hk⟩
      · cases z
      · rw [List.getElem?_set_ne (Ne.symm nj)] at e1
        rw [List.getElem?_set_ne (Ne.symm nk)] at e2
        exact R.sep j k ys zs r hj hk e1 e2
  · rcases set_get hj with ⟨_, rfl⟩ | ⟨_, hj⟩
    · cases hr
    · rcases set_get hk with ⟨_, rfl⟩ | ⟨nk, hk⟩
      · rcases oc with z | ⟨⟨_, z⟩, _⟩
        · cases z
        · cases z
      · refine R.tbs j k y z r hj hk hr jk ?_
        rcases oc with q | ⟨q, q2⟩
        · exact .inl q
        · rw [List.getElem?_set_ne (Ne.symm nk)] at q2
          exact .inr ⟨q, q2⟩
theorem xs_try_as {n : Str} {i : Nat} {cv : Value} {body suite : List Stmt} {b₀ : Stmt} {np pos' : Pos} {wb : DS} {ws : Addr → DS} {tbl : List (Str × Bool)} (hs : X.stack = X.env :: X.outer) (hf : X.env.frame = some X.env.locals) (hN : X.N.Nodup) (hi : X.N[i]? = some n) (hln : X.env.kindOf n = some .local)
    (hc : Names X x cv) (ht : ∀ c b, (c, b) ∈ tbl → ∀ C, X.mg c = some (.ref C) → PySem.W.exmOne X.K (.ref C) cv = some b ∧ (b = true → C = D)) (hE : ExcC X.K D)
    (hb : ∀ (pn : List (Addr × Obj)) (xe : Value → Shared → Prop), PassesOwn (model X.prog X.w) X.A X.env xe → XSs (X.tr pn xe) body wb)
    (hsu : ∀ (p0 : Addr × Obj) (pn : List (Addr × Obj)), Held1 X.K D p0 → XSs (X.suite p0.1 (p0 :: pn)) (b₀ :: suite) (ws p0.1)) :
    XS X (.Try body [.ExceptHandler (some (.Name x np)) (some n) (b₀ :: suite) pos'] [] [] pos) (wTryAs i tbl wb ws) :=
  ps_imp (ps_try_as (tb := fun W => tS X.K (wW X.K X.mg W) wb) (ts := fun a cls d D' σ H => (cls = .ref D ∧ d = none) ∧ tS X.K noX (ws a) D' σ H) hs hf hN hi hln hc (takes_wish X)
    (fun W pn xe tk pa => pss_imp (hb pn xe pa) fun D' σ H t => tS_wish (fun c xs F σ H q => wW_X tk q) t)
    (fun a oe cls d pn hz hfl => ⟨fun pins s σ H D' I h => by
      obtain ⟨⟨e1, e2⟩, h⟩ := h
      subst e1
      subst e2
      exact (hsu (a, oe) pn ⟨hE, hz, hfl⟩).run pins s σ H D' I (tS_wish (fun c xs F σ H q => q.elim) h)⟩)) fun D' σ H h => by
  obtain ⟨G, P, F, s, Φ, R, h, b⟩ := h
  refine ⟨G, P, F, s, _, R, h, ⟨b.nx, b.rt, b.bk, b.ct, b.rl, fun c xs σ' F' H' s' R' e q => ?_⟩⟩
  obtain ⟨rfl, bb, hm, q⟩ := q
  refine fun C gC => ⟨fun _ => ?_, fun z => absurd rfl z⟩
  obtain ⟨em, eD⟩ := ht c bb hm C gC
  refine ⟨bb, em, fun e2 a na => ⟨⟨by rw [eD e2], rfl⟩, ?_⟩, fun e2 => ?_⟩
  · rw [if_pos e2] at q
    refine ⟨G, P, F', _, _, R'.setD (.er a), q a, ⟨fun σ2 F2 H2 s2 R2 e3 q2 => b.nx _ F2 H2 _ R2.dropU (e.trans e3) q2, fun v σ2 F2 H2 s2 x R2 e3 => b.rt v σ2 F2 H2 s2 x R2 (e.trans e3), fun σ2 F2 H2 s2 R2 e3 q2 => b.bk _ F2 H2 _ R2.dropU (e.trans e3) q2, fun σ2 F2 H2 s2 R2 e3 q2 => b.ct _ F2 H2 _ R2.dropU (e.trans e3) q2,
      fun p vs σ2 F2 H2 s2 xs R2 e3 => b.rl p vs σ2 F2 H2 s2 xs R2 (e.trans e3), fun _ _ _ _ _ _ _ _ z => z.elim⟩⟩
  · rw [if_neg (by rw [e2]; decide)] at q
    exact (b.ex c [] σ' F' H' s' R' e q C gC).1 rfl
end
end DL
/-! DL: defs that stand and may raise; defs that are handed an error -/
namespace DL
open PySem PySem.Spec PyProof.Rows L2
structure CaX (P : Program) (w : World) (K : PySem.W.Frag) (mg : Str → Option Value) (base : Heap) (k : Nat) (x : Str) (ps : List Str) (sp : DSpX) : Prop where
  ex : ∃ f fd, FnG P w K mg base (L2.CX P w) k f fd ps (spX K mg sp) ∧ mg x = some (.ref f) ∧ PySem.W.keepIn K (.ref f) = true ∧ Binds K fd ps []
structure CaE (P : Program) (w : World) (K : PySem.W.Frag) (mg : Str → Option Value) (base : Heap) (k : Nat) (x : Str) (ps : List Str) (D : Addr) (b : Bool) : Prop where
  ex : ∃ f fd, FnE P w K mg base k f fd ps D b ∧ mg x = some (.ref f) ∧ PySem.W.keepIn K (.ref f) = true ∧ Binds K fd ps []
section
variable {P : Program} {w : World} {K : PySem.W.Frag} {mg : Str → Option Value} {base h : Heap} {k : Nat} {ps : List Str} {x : Str} {st : Stmt} {N : List Str}
theorem caX {sp : DSpX} (D : DefK K x st) (X : K.In h) (G : h.Ns mainGlobals mg) (Sc : FnScope N ps (defScope st)) (b : Bnd x st ps) (len : ∀ ds Φ Ψ, sp ds Φ Ψ → ds.length = ps.length)
    (body : ∀ (f : Addr) (cdv : Value) (A : Around) (outer : List Env) (s : Shared) (H : Hp) (E : XK), (A.deeper (envOfC x (defScope st) s.heap.objs.size f cdv)).guards = some [] → Room k (A.deeper (envOfC x (defScope st) s.heap.objs.size f cdv)) →
      ∃ wd, XSs (cxOf (L2.CX P w) P w K mg base N x (defScope st) f cdv A outer s H E) (defBody st) wd ∧ ∀ ds Φ Ψ, sp ds Φ Ψ → wd (endX Φ Ψ) ⟨startE N (ds.map .d), []⟩) : CaX P w K mg base (k + 1) x ps sp := by
  obtain ⟨f, od, an, sl, oc, kV, dc, pm, cd, ct, F, gm, kp⟩ := D.fn X G
  exact ⟨f, _, fn_X F Sc len (body f), gm, kp, F.binds b⟩
theorem caE {D : Addr} {b : Bool} (Df : DefK K x st) (X : K.In h) (G : h.Ns mainGlobals mg) (Sc : FnScope N ps (defScope st)) (bd : Bnd x st ps) (len : ps.length = 1)
    (body : ∀ (f : Addr) (cdv : Value) (A : Around) (outer : List Env) (s : Shared) (H : Hp) (E : XK) (p : Addr × Obj), Held1 K D p →
      ∃ wd, XSs ((cxOf CX0 P w K mg base N x (defScope st) f cdv A outer s H E).suite p.1 [p]) (defBody st) wd ∧ ∀ Φ : PyData → Prop, Φ (.bool b) → wd (endD Φ) ⟨startE N [.d (excD p.1)], []⟩) : CaE P w K mg base (k + 1) x ps D b := by
  obtain ⟨f, od, an, sl, oc, kV, dc, pm, cd, ct, F, gm, kp⟩ := Df.fn X G
  exact ⟨f, _, fn_E F Sc len (body f), gm, kp, F.binds bd⟩
end
section
variable {X : Cx} {k kX i : Nat} {sp : DSpX} {ps : List Str} {x y : Str} {p pos pos2 yp : Pos} {e : Expr} {es : List Expr} {wa : DA} {D : Addr} {p0 : Addr × Obj} {pn : List (Addr × Obj)} {b : Bool}
theorem c_retX (C : CaX X.prog X.w X.K X.mg X.base k x ps sp) (hgd : X.A.guards = some []) (hr : Room kX X.A) (hk : k ≤ kX) (hg : Gl X x) (ha : XA X (e :: es) wa)
    (hdb : (x == ("__debug__" : Str)) = false := by decide) (he : starEach (e :: es) X.env = (false, eval e X.env) :: starEach es X.env := by rfl) (hpl : (backTo pos (starEach es X.env)).any (·.1) = false := by rfl) :
    XS X (.Return (some (.Call (.Name x p) (e :: es) [] pos)) pos2) (wRetX sp wa) := by
  obtain ⟨f, fd, F, gm, kp, b⟩ := C.ex
  exact xs_retX F hgd (hr.mono hk) hg gm kp b ha hdb he hpl
theorem c_setX (hN : X.N.Nodup) (hi : X.N[i]? = some y) (hx : Loc X.env.scope y) (C : CaX X.prog X.w X.K X.mg X.base k x ps sp) (hgd : X.A.guards = some []) (hr : Room kX X.A) (hk : k ≤ kX) (hg : Gl X x) (ha : XA X (e :: es) wa)
    (hdb : (x == ("__debug__" : Str)) = false := by decide) (he : starEach (e :: es) X.env = (false, eval e X.env) :: starEach es X.env := by rfl) (hpl : (backTo pos (starEach es X.env)).any (·.1) = false := by rfl)
    (hs : swapsWith (.Call (.Name x p) (e :: es) [] pos) (some (.Name y yp)) pos2.line X.env = pure false := by rfl)
    (hf : X.fn y = true ∨ X.env.scope.names.lookup y = some .local := by first | exact .inl rfl | exact .inr rfl | assumption) :
    XS X (.Assign [.Name y yp] (.Call (.Name x p) (e :: es) [] pos) pos2) (wSetX i sp wa) := by
  obtain ⟨f, fd, F, gm, kp, b⟩ := C.ex
  exact xs_setX hN hi hx F hgd (hr.mono hk) hg gm kp b ha hdb he hpl hs hf
theorem c_callE (C : CaE X.prog X.w X.K X.mg X.base k x ps D b) (E : Held1 X.K D p0) (hr : Room kX X.A) (hk : k ≤ kX) (hg : Gl (X.suite p0.1 (p0 :: pn)) x) (ha : XA (X.suite p0.1 (p0 :: pn)) [e] wa)
    (hdb : (x == ("__debug__" : Str)) = false := by decide) (he : starEach [e] X.env = (false, eval e X.env) :: starEach [] X.env := by rfl) (hpl : (backTo pos (starEach [] X.env)).any (·.1) = false := by rfl) :
    XE (X.suite p0.1 (p0 :: pn)) (.Call (.Name x p) [e] [] pos) (wCallE p0.1 b wa) := by
  obtain ⟨f, fd, F, gm, kp, bb⟩ := C.ex
  exact xe_callE F E (L2H.roomH_of (hr.mono hk)) hg gm kp bb ha hdb he hpl
end
/-! what the classes answer -/
theorem kit_ref {K : PySem.W.Frag} {t : Value} {C : Addr} {b : Bool} (h1 : PySem.W.isClsIn K C = true) (h2 : PySem.W.typeIn K (.ref C) = some (.type "type")) (h3 : PySem.W.subIn K t (.ref C) = some b) (h4 : b = true ∨ (t == .ref C) = false) : PySem.W.kitOne K t (.ref C) = some b := by
  have e : PySem.W.kitCls K t (.ref C) = some b := by
    show (if ((PySem.W.clsIn K C).isSome && PySem.W.typeIn K (.ref C) == some (.type "type")) = true then PySem.W.subIn K t (.ref C) else none) = some b
    have h1 : (PySem.W.clsIn K C).isSome = true := h1
    rw [h1, h2, if_pos (by decide), h3]
  unfold PySem.W.kitOne
  by_cases q : (t == Value.ref C) = true
  · rw [if_pos q]
    rcases h4 with h4 | h4
    · rw [h4]
    · rw [h4] at q
      cases q
  · rw [if_neg q]
    exact e
theorem kit_val {K : PySem.W.Frag} {D : Addr} {b : Bool} (h : PySem.W.subIn K (.ref D) (.type "ValueError") = some b) : PySem.W.kitOne K (.ref D) (.type "ValueError") = some b := by
  have e : PySem.W.kitMeta "ValueError" = true := by decide +kernel
  show (if (Value.ref D == Value.type "ValueError") = true then some true else (if PySem.W.kitMeta "ValueError" = true then PySem.W.subIn K (.ref D) (.type "ValueError") else none)) = some b
  rw [if_neg (by intro z; cases (beq_iff_eq.mp z)), if_pos e]
  exact h
end DL
/-! DL: enumerate of a text -/
namespace DL
open PySem PySem.Spec PyProof.Rows L2
def IteS (x : Str) : It :=
  ⟨fun i _ => i < x.cps.size, fun i H v H' => ∃ T c, v = .ref T ∧ H T = none ∧ x.cps[i]? = some c ∧ H' = upd H T (.tup [.int (i : Nat), .str ⟨#[c]⟩]), fun i _ => x.cps.size ≤ i⟩
theorem draws_text {prog : Program} {w : World} {A : Around} (hh : A.handled = none) (it : Addr) (x : Str) (t : Tok) :
    Draws prog w A it [it] x.cps.size (fun i v => ∃ c u, x.cps[i]? = some c ∧ v = .str ⟨#[c]⟩ u) (fun i h => h.IsStrIter it (strIterType x) x t i) := by
  cases ha : x.cps.all (· < 128)
  · simp only [strIterType, ha, Bool.false_eq_true, if_false]
    exact .strWide hh it x t
  · simp only [strIterType, ha, if_true]
    exact .strAscii hh it x t
theorem turn_enumS {P : Program} {w : World} {K : PySem.W.Frag} {elts : List Expr} {kk : Nat} {tpos : Pos} (x : Str) (t : Tok) (e it : Addr) :
    Turn P w K (.Tuple elts kk tpos) (IteS x) [e, it] e (fun i h => (∃ old, IsEnum h e it ((i : Nat) : Int) old) ∧ h.IsStrIter it (strIterType x) x t i ∧ e ≠ it ∧ i ≤ x.cps.size) where
  mem := by simp
  obj := fun i h st b hb => by
    obtain ⟨⟨old, he⟩, ⟨o, ho, hc, hd⟩, _⟩ := st
    have e' : b = e ∨ b = it := by simpa using hb
    rcases e' with z | z
    · rw [z]; exact ⟨_, he, fun v q => nomatch q⟩
    · rw [z]; exact ⟨o, ho, fun v q => by rw [hd] at q; cases q⟩
  keep := fun i h h' st k => let ⟨⟨old, he⟩, ⟨o, ho, r⟩, hne, hle⟩ := st; ⟨⟨old, k e (by simp) _ he⟩, ⟨o, k it (by simp) o ho, r⟩, hne, hle⟩
  item := by
    intro X hP hw hK hc i pins s σ H E I hf st hg
    subst hP hw hK
    obtain ⟨⟨old, he⟩, hit, hne, hle⟩ := st
    have hel : e < s.heap.objs.size := Heap.lt_size he
    have hil : it < s.heap.objs.size := by obtain ⟨_, q, _⟩ := hit; exact Heap.lt_size q
    have hlt : i < x.cps.size := hg
    refine wpAny_pyNext_enum_itemD (draws_text (A := X.A.in1) (I.ok.hd hc) it x t) he hit hlt hne (by simpa using hne) fun v h' tk hv ho hit' hT hsz hk => ?_
    obtain ⟨c, u, hcx, rfl⟩ := hv
    refine ⟨_, rfl, wpAny_letOwnedTupleGo_enum (s := { s with heap := h', toks := tk + 1 }) ho fun h'' he' sb => ?_⟩
    have hT2 : h''.get? s.heap.objs.size = some { cls := .type "tuple", data := .seq #[.int i tk, .str ⟨#[c]⟩ u] } := (sb.2 _ (Nat.ne_of_gt hel)).trans hT
    have new : ObjOk X.prog X.w (upd H s.heap.objs.size (.tup [.int (i : Nat), .str ⟨#[c]⟩])) h'' s.heap.objs.size (.tup [.int (i : Nat), .str ⟨#[c]⟩]) :=
      ⟨by show 2 ≤ sizeLine; decide, [.int i tk, .str ⟨#[c]⟩ u], .cons ⟨_, rfl⟩ (.cons ⟨_, rfl⟩ .nil), ⟨_, hT2, rfl, _, rfl⟩⟩
    have I1 : Inv X pins σ (upd H s.heap.objs.size (.tup [.int (i : Nat), .str ⟨#[c]⟩])) { s with heap := h'', toks := tk + 1 } :=
      I.turnedNew (ch := [e, it]) (fun b ob hb q => (sb.2 b (fun z => hb (by simp [z]))).trans (hk b ob (fun z => hb (by simp [z])) (fun z => hb (by simp [z])) q)) hf (Nat.le_refl _) new
    refine ⟨.ref s.heap.objs.size, _, I1, rfl, ⟨_, c, rfl, I.hok.fresh (Nat.le_refl _), hcx, rfl⟩, ⟨⟨.str ⟨#[c]⟩ u, ?_⟩, ?_, hne, hlt⟩, fun b hb => ?_⟩
    · have e1 : ((i + 1 : Nat) : Int) = (i : Int) + 1 := by omega
      rw [e1]; exact he'
    · obtain ⟨o, ho2, r⟩ := hit'
      exact ⟨o, (sb.2 it (Ne.symm hne)).trans ho2, r⟩
    · have hb' : b < s.heap.objs.size := by
        have e' : b = e ∨ b = it := by simpa using hb
        rcases e' with z | z
        · rw [z]; exact hel
        · rw [z]; exact hil
      rw [upd_ne (Nat.ne_of_lt hb')]
      exact (hf b hb).1
  done := by
    intro X hP hw hK hc i pins s σ H E I hf st hg
    subst hP hw hK
    obtain ⟨⟨old, he⟩, hit, hne, hle⟩ := st
    obtain ⟨f0, f1, f2, f3, f4, f5⟩ := hf it (by simp)
    have hg : x.cps.size ≤ i := hg
    have ei : i = x.cps.size := Nat.le_antisymm hle hg
    subst ei
    exact wpAny_pyNext_enum_endD (draws_text (A := X.A.in1) (I.ok.hd hc) it x t) he hit fun h' eb => ⟨rfl, I.turned (t' := s.toks) (fun b o hb q => eb b o hb q) f0 f1 f3 f4 f5⟩
  self := fun A i s Q E st h => let ⟨⟨_, he⟩, _⟩ := st; wpAny_pyIter_enum he h
def iEnum2 (K : PySem.W.Frag) (ta : TA) : TI := fun σ H R => ta σ H fun vs H1 => (∃ a xs, vs = [.ref a] ∧ SqL K H1 a xs ∧ R (Ite K a) H1) ∨ ∃ x, vs = [.str x] ∧ R (IteS x) H1
theorem pi_enum2 {X : Cx} {e : Expr} {ta : TA} {p pos tpos : Pos} {elts : List Expr} {kk : Nat} (hg : Gl X "enumerate") (hm : X.mg "enumerate" = none) (ha : PA X [e] ta) (hs : starEach [e] X.env = [(false, eval e X.env)] := by rfl) :
    PI X (.Tuple elts kk tpos) (.Call (.Name "enumerate" p) [e] [] pos) (iEnum2 X.K ta) := by
  refine ⟨fun pins s σ H R I h => ?_⟩
  refine Call_ (ld_blt I hg hm boot_enumerate (PyProof.Rows.callWith_type1 (thn (ha.run pos pins s σ H _ I h) fun us s1 ⟨vs, H1, I1, r1, q1⟩ => ?_) hs rfl))
  rcases q1 with ⟨a, xs, ex, hq, q⟩ | ⟨x, ex, q⟩
  · subst ex
    cases r1 with
    | cons r rr =>
      cases rr
      cases r
      obtain ⟨its, rv, p', hz⟩ := I1.list hq
      refine call_enumerate_list p'.isList fun h' he hit hsz hk => wpAny_pyIter_enum he ?_
      have I2 : Inv X pins σ H1 { s1 with heap := h' } := I1.kept (t' := s1.toks) hk
      refine ⟨s1.heap.objs.size + 1, [s1.heap.objs.size + 1, s1.heap.objs.size], _, _, H1, rfl, I2, turn_enum a (s1.heap.objs.size + 1) s1.heap.objs.size, ⟨⟨.none, he⟩, hit, Nat.succ_ne_self _⟩, fun b hb => ?_, q⟩
      have e' : b = s1.heap.objs.size + 1 ∨ b = s1.heap.objs.size := by simpa using hb
      have hle : s1.heap.objs.size ≤ b := by
        rcases e' with z | z
        · rw [z]; exact Nat.le_add_right _ _
        · rw [z]; exact Nat.le_refl _
      exact I1.fpOk hle (I1.hok.fresh hle)
  · subst ex
    cases r1 with
    | cons r rr =>
      cases rr
      obtain ⟨t, rfl⟩ := r
      refine call_enumerate_str fun h' he hit hsz hk => wpAny_pyIter_enum he ?_
      have I2 : Inv X pins σ H1 { s1 with heap := h' } := I1.kept (t' := s1.toks) hk
      refine ⟨s1.heap.objs.size + 1, [s1.heap.objs.size + 1, s1.heap.objs.size], _, _, H1, rfl, I2, turn_enumS x t (s1.heap.objs.size + 1) s1.heap.objs.size, ⟨⟨.none, he⟩, hit, Nat.succ_ne_self _, Nat.zero_le _⟩, fun b hb => ?_, q⟩
      have e' : b = s1.heap.objs.size + 1 ∨ b = s1.heap.objs.size := by simpa using hb
      have hle : s1.heap.objs.size ≤ b := by
        rcases e' with z | z
        · rw [z]; exact Nat.le_add_right _ _
        · rw [z]; exact Nat.le_refl _
      exact I1.fpOk hle (I1.hok.fresh hle)
theorem yl_enumS {K : PySem.W.Frag} {F : Hp} {z : Str} : Yl K F (IteS z) (enumD (signsOf z)) := fun F1 H1 e1 e2 i => by
  have hl : (signsOf z).length = z.cps.size := by
    unfold signsOf
    rw [List.length_map, Array.length_toList]
  refine ⟨fun x hx => ?_, fun h => by rw [enumD_len, hl] at h; exact h⟩
  obtain ⟨y, hy, rfl⟩ := enumD_get hx
  have hi : i < z.cps.size := by rw [← hl]; exact (List.getElem?_eq_some_iff.mp hy).1
  refine ⟨hi, fun u H2 q => ?_⟩
  obtain ⟨T, c, rfl, nT, hc, rfl⟩ := q
  have ey : y = .str ⟨#[c]⟩ := by
    unfold signsOf at hy
    rw [List.getElem?_map, Array.getElem?_toList, hc] at hy
    cases hy
    rfl
  subst ey
  have f := Fresh.new (o := .tup [.int (i : Nat), .str ⟨#[c]⟩]) e2 nT
  exact ⟨_, f, .tup (SqT.of upd_same) (.cons (.int _) (.cons (.str _) .nil))⟩
@[simp] def wEnum2 (w : DA) : DI := fun s Φ => w s fun xs s1 => match xs with
  | [.list xs] => Φ (enumD xs) s1
  | [.str z] => Φ (enumD (signsOf z)) s1
  | _ => False
theorem xi_enum2 {X : Cx} {e : Expr} {pos : Pos} {elts : List Expr} {kk : Nat} {w : DA} {p tpos : Pos} (hg : Gl X "enumerate") (hm : X.mg "enumerate" = none) (ha : XA X [e] w) (hs : starEach [e] X.env = [(false, eval e X.env)] := by rfl) :
    XI X (.Tuple elts kk tpos) (.Call (.Name "enumerate" p) [e] [] pos) (wEnum2 w) := pi_imp (pi_enum2 hg hm ha hs) fun σ H R h => by
  obtain ⟨G, P, F, s, Φ, RR, h, k⟩ := h
  refine ⟨G, P, F, s, _, RR, h, fun vs F1 H1 s1 xs R1 e1 d1 q => ?_⟩
  match xs, d1, q with
  | [.list xs], .cons (.lst h1 h2) .nil, q => exact .inl ⟨_, _, rfl, SqL.of (R1.same _ _ h1), k _ F1 H1 s1 _ R1 e1 (yl_enum h1 h2) q⟩
  | [.str z], .cons (.str _) .nil, q => exact .inr ⟨z, rfl, k _ F1 H1 s1 _ R1 e1 yl_enumS q⟩
def gc_int {K : PySem.W.Frag} {mg : Str → Option Value} {h : Heap} (X : K.In h) (G : h.Ns mainGlobals mg) {x : Str} {i : Int} {t : Tok} (a : PySem.W.nsIn K mainGlobals x = some (some (.int i t))) : Gc K mg x (.int i) where
  v := .int i
  u := .int i t
  mg := PySem.W.mg_of X G a
  rel := ⟨t, rfl⟩
  dq := fun F => .int _
theorem exC_val {K : PySem.W.Frag} {mg : Str → Option Value} {h : Heap} (X : K.In h) (G : h.Ns mainGlobals mg) {x : Str} {C : Addr} (t1 : PySem.W.nsIn K mainGlobals x = some (some (.ref C))) (t2 : PySem.W.keepIn K (.ref C) = true)
    (t3 : PySem.W.excIn K C [.type "ValueError", .type "Exception", .type "BaseException", .type "object"] "ValueError.__new__" = true) (t4 : PySem.W.subIn K (.ref C) (.type "BaseException") = some true) (t5 : PySem.W.typeIn K (.ref C) = some (.type "type")) : ExC K mg x :=
  ⟨_, PySem.W.mg_of X G t1, t2, ⟨_, _, _, _, PySem.F.excBase_ValueError, t3⟩, t4, t5⟩
end DL
/-! DL: gcd, lcm of the module math; abs -/
namespace DL
open PySem PySem.Spec PyProof.Rows L2
section
variable {X : Cx} {K : PySem.W.Frag}
def rLcm : List V → Hp → VK → Prop := fun vs H Q => ∃ a b : Int, vs = [.int a, .int b] ∧ a.natAbs < 2 ^ 64 ∧ b.natAbs < 2 ^ 64 ∧ Q (.int ((Nat.lcm a.natAbs b.natAbs : Nat) : Int)) H
theorem lcm_fits {a b : Nat} (ha : a < 2 ^ 64) (hb : b < 2 ^ 64) : (((Nat.lcm a b : Nat) : Int)).natAbs.log2 < bitsLine := by
  rw [Int.natAbs_natCast]
  have h : Nat.lcm a b < 2 ^ 128 := Nat.lt_of_le_of_lt (Nat.div_le_self _ _) (by
    have h1 : a * b ≤ (2 ^ 64 - 1) * (2 ^ 64 - 1) := Nat.mul_le_mul (by omega) (by omega)
    exact Nat.lt_of_le_of_lt h1 (by decide))
  exact Nat.lt_of_le_of_lt (PySem.W.mg_log (k := 127) h) (by decide +kernel)
theorem cr_lcm : CallR X (.builtin "math.lcm") rLcm := by
  intro pins s σ H vs us Q I r h
  obtain ⟨a, b, rfl, ha, hb, q⟩ := h
  obtain ⟨t, u, rfl⟩ := Vals.int2 r
  refine PySem.W.mg_lcm ha hb ?_ ?_
  · rw [Nat.lcm_one_left]
    exact lcm_fits ha hb
  · rw [Nat.lcm_one_left]
    exact ⟨.int _, H, I.tok _, ⟨_, rfl⟩, q⟩
@[simp] def gGcd : PyData → PyData → (PyData → Prop) → Prop := fun x y Φ => match x, y with
  | .int i, .int j => Φ (.int ((Nat.gcd i.natAbs j.natAbs : Nat) : Int))
  | _, _ => False
@[simp] def gLcm : PyData → PyData → (PyData → Prop) → Prop := fun x y Φ => match x, y with
  | .int i, .int j => i.natAbs < 2 ^ 64 ∧ j.natAbs < 2 ^ 64 ∧ Φ (.int ((Nat.lcm i.natAbs j.natAbs : Nat) : Int))
  | _, _ => False
@[simp] def gAbs : PyData → (PyData → Prop) → Prop
  | .int i, Φ => Φ (.int (if i < 0 then -i else i))
  | _, _ => False
theorem opn_gcd : OpN K rGcd (wN2 gGcd) := opN2 fun F H v u x y Q Φ s d1 d2 w k => by
  cases x with
  | int i =>
    cases y with
    | int j =>
      cases d1
      cases d2
      exact ⟨i, j, rfl, k _ F H _ (Fresh.refl s) (.int _) w⟩
    | _ => exact w.elim
  | _ => exact w.elim
theorem opn_lcm : OpN K rLcm (wN2 gLcm) := opN2 fun F H v u x y Q Φ s d1 d2 w k => by
  cases x with
  | int i =>
    cases y with
    | int j =>
      cases d1
      cases d2
      exact ⟨i, j, rfl, w.1, w.2.1, k _ F H _ (Fresh.refl s) (.int _) w.2.2⟩
    | _ => exact w.elim
  | _ => exact w.elim
theorem opn_abs : OpN K (fun xs H Q => ∃ i, xs = [.int i] ∧ Q (.int (if i < 0 then -i else i)) H) (wN1 gAbs) := opN1 fun F H v x Q Φ s d w k => by
  cases x with
  | int i =>
    cases d
    exact ⟨i, rfl, k _ F H _ (Fresh.refl s) (.int _) w⟩
  | _ => exact w.elim
/-- f(e, ..), f a module's name for a built-in function -/
theorem xe_callM {x : Str} {p pos : Pos} {e : Expr} {es : List Expr} {id : String} {r : List V → Hp → VK → Prop} {w : WN} {wa : DA} (hc : CallR X (.builtin id) r) (O : OpN X.K r w) (hg : Gl X x) (hm : X.mg x = some (.builtin id)) (ha : XA X (e :: es) wa)
    (hdb : (x == ("__debug__" : Str)) = false := by decide) (he : starEach (e :: es) X.env = (false, eval e X.env) :: starEach es X.env := by rfl) (hpl : (backTo pos (starEach es X.env)).any (·.1) = false := by rfl) :
    XE X (.Call (.Name x p) (e :: es) [] pos) (wCB w wa) := pe_imp (pe_callBfun hc hg hm ha hdb he hpl) (cb_of O)
end
end DL
/-! own errors with an own __init__ that says Base.__init__(self, ..), Base an own class; errors as values -/
namespace DL
open PySem PySem.Spec PyProof.Rows L2
section
variable {X : Cx} {e : Expr} {es : List Expr} {ta : TA} {p1 p2 pos : Pos} {B C : Addr} {mc : Value}
theorem handed_ve : PySem.W.handedIn (.builtin "ValueError.__init__") = true := by decide +kernel
/-- what the written part says of the base class -/
structure BaseC (K : PySem.W.Frag) (B : Addr) : Prop where
  sp : PySem.W.specialIn K (.ref B) "__getattribute__" = some (some (.builtin "type.__getattribute__"))
  rd : PySem.W.readsIn K B (.type "type") = true
  vV : PySem.W.findCls K (.ref B) (.type "type") "__init__" = some (.val (.builtin "ValueError.__init__"))
  kp : PySem.W.keepIn K (.ref B) = true
/-- B.__init__(self, ..), B an own class without an __init__ of its own -/
theorem pe_heinit {x : Str} {pl : Sem Bool} (T : BaseC X.K B) (hg : Gl X x) (gB : X.mg x = some (.ref B)) (ha : PA X (e :: es) ta)
    (hc : eval (.Call (.Attribute (.Name x p1) "__init__" p2) (e :: es) [] pos) X.env = (do
      let ov ← eval (.Name x p1) X.env
      standAt p2.atName
      let (f, first) ← holding [ov] (getMethod ov "__init__" pl)
      callWith pos f first (backTo pos (starEach (e :: es) X.env)) (backToKw pos (keywordEach [] X.env))) := by rfl)
    (hdb : (x == ("__debug__" : Str)) = false := by decide)
    (he : starEach (e :: es) X.env = (false, eval e X.env) :: starEach es X.env := by rfl) (hpl : (backTo pos (starEach es X.env)).any (·.1) = false := by rfl) :
    PE X (.Call (.Attribute (.Name x p1) "__init__" p2) (e :: es) [] pos) (tVeI X.K ta) := by
  refine ⟨fun pins s σ H Q I h => ?_⟩
  refine PySem.W.methodCall_KW (ld_glob I hg gB ?_ hdb) hc
  refine PySem.W.method_cls I.kIn T.sp (PySem.W.cls_value I.kIn T.rd T.vV handed_ve ?_)
  show wpAny _ _ (callWith pos (Value.builtin "ValueError.__init__") [] (backTo pos (starEach (e :: es) X.env)) []) _ _ _
  refine PyProof.Rows.callWith_method1 (thn (ha.run pos pins _ σ H _ (I.tok _) h) fun us s1 ⟨vs, H1, I1, r1, a, C, ws, ev, hl, T, ea, q⟩ => ?_) he hpl
  subst ev
  cases r1 with
  | @cons _ u0 _ ur ra rw' =>
    obtain rfl : u0 = Value.ref a := ra
    have hlen : ur.length ≤ sizeLine := by
      rw [← Paired.length rw', sizeLine_eq]
      omega
    exact oinit_ok T I1 ea hlen fun s' J => ⟨.non, H1, J, rfl, q⟩
end
/-! ### own errors as values: made, asked, read -/
/-- C(e, ..), C's own __init__ keeping sp, as a value -/
def tMkV (C : Addr) (sp : Sp) (ta : TA) : TE := fun σ H Q => ta σ H fun vs H1 => vs.length ≤ 1000 ∧ ∀ a, H1 a = none → sp (.ref a :: vs) (upd H1 a (exo a C none)) (fun v H2 => v = .non ∧ Q (.ref a) H2) (fun _ _ _ => False)
section
variable {X : Cx} {e : Expr} {es : List Expr} {ta : TA} {p pos : Pos}
theorem pe_oex {CX : CXT} {x : Str} {C fI : Addr} {k : Nat} {fd : FuncData} {ps : List Str} {sp : Sp} (T : OexC X.K C) (iC : PySem.W.findIn X.K (.ref C) "__init__" = some (some (.ref fI))) (tI : PySem.W.typeIn X.K (.ref fI) = some (.type "function"))
    (F1 : FnOk X.prog X.w X.K X.mg X.base CX k fI fd ps sp) (hr : Room (k + 1) X.A) (hb : Binds X.K fd ps []) (hx : Passes CX X (fun _ _ _ => False)) (hg : Gl X x) (hm : X.mg x = some (.ref C)) (ha : PA X (e :: es) ta)
    (hdb : (x == ("__debug__" : Str)) = false := by decide) (he : starEach (e :: es) X.env = (false, eval e X.env) :: starEach es X.env := by rfl) (hpl : (backTo pos (starEach es X.env)).any (·.1) = false := by rfl) :
    PE X (.Call (.Name x p) (e :: es) [] pos) (tMkV C sp ta) := by
  refine ⟨fun pins s σ H Q I h => ?_⟩
  obtain ⟨nm, q, N, bs, bm, sn, sub, ab, col, dd, k0, k1, k2, k3, k5, hC, hbm⟩ := T.cls
  refine wpAny_Call_Name_kw (ld_glob I hg hm ?_ hdb)
  refine PySem.W.callWith_K (h₀ := X.base) I.ok.mod.kin T.kC (thn (ha.run pos pins s σ H _ I h) fun us s1 ⟨vs, H1, I1, r1, hz, q1⟩ => ⟨I1.kIn, ?_⟩) he hpl
  show wpAny _ _ (call (.ref C) us) _ _ _
  obtain ⟨hp, g, dr, tk, os⟩ := s1
  have hsz : hp.objs.size ≤ hp.objs.size + 1 := Nat.le_succ _
  have hn : H1 (hp.objs.size + 1) = none := I1.hok.fresh hsz
  have hq := q1 (hp.objs.size + 1) hn
  have kk : ∀ b o, hp.get? b = some o → ((hp.push (PySem.W.kdv_tup us)).push (PySem.HandSPX.excO C hp.objs.size)).get? b = some o := fun b o e => Heap.get?_push_of_some _ (Heap.get?_push_of_some _ e)
  have hget : ((hp.push (PySem.W.kdv_tup us)).push (PySem.HandSPX.excO C hp.objs.size)).get? (hp.objs.size + 1) = some (PySem.HandSPX.excO C hp.objs.size) := by heap_get
  have I2 : Inv X pins σ (upd H1 (hp.objs.size + 1) (exo (hp.objs.size + 1) C none)) ⟨(hp.push (PySem.W.kdv_tup us)).push (PySem.HandSPX.excO C hp.objs.size), g, dr, tk, os⟩ :=
    I1.laid (t' := tk) (a := hp.objs.size + 1) (o := exo (hp.objs.size + 1) C none) (h' := (hp.push (PySem.W.kdv_tup us)).push (PySem.HandSPX.excO C hp.objs.size)) kk hsz (exo_ok hget)
  have r2 : Vals (V.ref (hp.objs.size + 1) :: vs) (Value.ref (hp.objs.size + 1) :: us) := .cons rfl r1
  have hl : (Value.ref (hp.objs.size + 1) :: us).length = ps.length := by
    have e := r2.length
    rw [F1.len _ _ _ _ hq] at e
    exact e.symm
  have hus : us.length ≤ sizeLine := by
    rw [← Paired.length r1, sizeLine_eq]
    omega
  have bb := hb ⟨(hp.push (PySem.W.kdv_tup us)).push (PySem.HandSPX.excO C hp.objs.size), g, dr, tk, os⟩ (Value.ref (hp.objs.size + 1) :: us) I2.kIn (by rw [List.append_nil]; exact hl)
  rw [List.append_nil] at bb
  refine wpAny_call (PySem.HandSPX.call_own F.excBase_ValueError (fun Y => PySem.HandSPX.refsVE_contains Y bm hbm) (I1.kIn _ _ hC) (PySem.W.looks_findIn I1.kIn iC) (fun self => PySem.W.bind_fn I1.kIn self tI) hus
    (codeAny_mono (F1.run _ X.stack _ _ ⟨Value.ref (hp.objs.size + 1) :: us, []⟩ (Value.ref (hp.objs.size + 1) :: us) _ _ (fun _ _ _ => False) (hr.make C us []) (I2.env0.make C us []) bb r2 hq) fun r s' hq' => ?_))
  cases r with
  | error er => exact hx pins σ _ _ er s' I2 hq'
  | ok fl =>
    cases fl with
    | ret u =>
      obtain ⟨v, H2, os2, bare2, un2, hok2, rv, ev, q2⟩ := hq'
      subst ev
      obtain ⟨h2, g2, d2, t2, os'⟩ := s'
      obtain rfl : os' = os := os2
      exact ⟨rv, .ref (hp.objs.size + 1), H2, I2.call (ch := []) un2 hok2 bare2 (fun b z => absurd z (by simp)), rfl, q2⟩
    | next => exact False.elim hq'
    | brk => exact False.elim hq'
    | cont => exact False.elim hq'
/-- C(), C without an __init__ of its own, as a value -/
theorem pe_oex0 {C : Addr} {bmB : List Value} {B newId initId : String} {x : Str} (F : ExcBaseFacts B newId initId bmB) (q : PySem.W.excIn X.K C bmB newId = true) (gC : X.mg x = some (.ref C)) (kC : PySem.W.keepIn X.K (.ref C) = true) (hg : Gl X x)
    (hdb : (x == ("__debug__" : Str)) = false := by decide) :
    PE X (.Call (.Name x p) [] [] pos) (fun σ H Q => ∀ a, H a = none → Q (.ref a) (upd H a (exo a C none))) := by
  refine ⟨fun pins s σ H Q I h => ?_⟩
  refine wpAny_Call_Name_kw (ld_glob I hg gC ?_ hdb)
  refine PySem.W.callWith_K0 I.kIn kC ?_
  show wpAny _ _ (call (.ref C) []) _ _ _
  obtain ⟨bm, N, nm, qn, bs, hdct, sn, sub, ab, col, dd, k0, k1, k2, k3, k5, mN, hC, hN, hni, T⟩ := exc_obj I.kIn q
  refine wpAny_call_exc_subT F T hC hN hni (fun h' a hm => ?_) (by show 0 ≤ sizeLine; exact Nat.zero_le _)
  have hn : H a = none := I.hok.gone hm.new
  obtain ⟨t, ht, _, _⟩ := hm.there
  exact ⟨.ref a, upd H a (exo a C none), L2.Inv.laidN I hm.keeps hm.new hn (exo_ok ht), rfl, h a hn⟩
/-- isinstance(e, c), e an error that is held as a value -/
def rIsX (K : PySem.W.Frag) : List V → Hp → VK → Prop := fun xs H Q => ∃ (a D : Addr) (d : Option Addr) (c : V) (cv : Value) (b : Bool), xs = [.ref a, c] ∧ ExcC K D ∧ H a = some (exo a D d) ∧ (d = none ∨ ∃ dd fs, d = some dd ∧ H dd = some (exd dd fs)) ∧ (∀ u, RelV c u → u = cv) ∧ PySem.W.kitOne K (.ref D) cv = some b ∧ Q (.bl b) H
theorem call_isX : CallR X (.builtin "isinstance") (rIsX X.K) := by
  intro pins s σ H xs us Q I r h
  obtain ⟨a, D, d, c, cv, b, rfl, C, ha, hd, hcv, e, q⟩ := h
  cases r with
  | cons rx rr =>
    cases rr with
    | cons rt rr =>
      cases rr
      cases rx
      have ec := hcv _ rt
      subst ec
      obtain ⟨t1, ho⟩ := exo_at I.hok ha
      have hcl : (PySem.W.clsIn X.K D).isSome = true := by
        obtain ⟨cd, hc, _⟩ := PySem.W.any_some C.hd
        rw [hc]
        rfl
      have hK := fun (od : Option Obj) (ox : Obj) => PySem.W.kitx_exc (x := a) (ox := ox) (od := od) hcl C.hg C.hk C.hs C.ha C.hn C.ht C.hm
      rcases hd with rfl | ⟨dd, fs, rfl, hd⟩
      · have J : PySem.W.InstAt s.heap a ({ cls := .ref D, dict := none, data := .fields #[.ref t1, .none, .none, .none, .bool false, .none] } : Obj) D none := ⟨ho, rfl, rfl, trivial⟩
        exact PySem.W.kia_one (hK none _) I.kIn J e (fun z => nomatch z) fun tk => ⟨.bl b, H, I.kept (t' := tk) fun _ _ z => z, rfl, q⟩
      · obtain ⟨mA, hns, rel⟩ := exd_at I.hok hd
        obtain ⟨od, hod, hl⟩ := lookIn_ns hns
        have J : PySem.W.InstAt s.heap a ({ cls := .ref D, dict := some dd, data := .fields #[.ref t1, .none, .none, .none, .bool false, .none] } : Obj) D (some od) := ⟨ho, rfl, rfl, hod⟩
        exact PySem.W.kia_one (hK (some od) _) I.kIn J e (fun z => nomatch z) fun tk => ⟨.bl b, H, I.kept (t' := tk) fun _ _ z => z, rfl, q⟩
/-- e.f, e an error that is held as a value -/
def tFldX (K : PySem.W.Frag) (n : Str) (te : TE) : TE := fun σ H Q => te σ H fun x H1 => ∃ (a C dd : Addr) (fs : List (Str × V)) (v : V), x = .ref a ∧ H1 a = some (exo a C (some dd)) ∧ H1 dd = some (exd dd fs) ∧ fs.lookup n = some v ∧ XfC K C ∧ PySem.W.findIn K (.ref C) n = some none ∧ Q v H1
theorem pe_fldX {n : Str} {te : TE} (he : PE X e te) (hb : attributeBase e n X.env (eval e X.env) = eval e X.env := by rfl) : PE X (.Attribute e n pos) (tFldX X.K n te) := by
  refine ⟨fun pins s σ H Q I h => ?_⟩
  refine attr_of hb (thn (he.run pins s σ H _ I h) fun u s1 hh => ?_)
  obtain ⟨x, H1, I1, rx, a, C, dd, fs, v, ex, ha, ea, l, T, hno, q⟩ := hh
  subst ex
  obtain rfl : u = Value.ref a := rx
  obtain ⟨t1, ho⟩ := exo_at I1.hok ha
  obtain ⟨mA, hns, hr⟩ := exd_at I1.hok ea
  obtain ⟨od, hod, hl⟩ := lookIn_ns hns
  obtain ⟨u, hu, ru⟩ := RelO.some_of (v := v) (o := mA n) (by rw [← l]; exact hr n)
  have J : PySem.W.InstAt s1.heap a ({ cls := .ref C, dict := some dd, data := .fields #[.ref t1, .none, .none, .none, .bool false, .none] } : Obj) C (some od) := ⟨ho, rfl, rfl, hod⟩
  exact HandSPX.exc_get I1.kIn J T.ga T.gg T.exC (PySem.W.findObj_own T.hdC hno rfl (by rw [hl, hu])) (handed_of ru) ⟨v, H1, I1.tok _, ru, q⟩
end
end DL
/-! DL: own errors as data -/
namespace DL
open PySem PySem.Spec PyProof.Rows L2
/-- what may stand in an error's message -/
def FmtOk : V → Prop
  | .int i => i.natAbs.log2 < 1920 ∧ (toString i : Str).length ≤ 1000
  | .str y => y.length ≤ 1000
  | _ => False
def fmtD : PyData → Prop
  | .int i => i.natAbs.log2 < 1920 ∧ (toString i : Str).length ≤ 1000
  | .str y => y.length ≤ 1000
  | _ => False
/-- what an error's own __init__ promises: its fields -/
def spInit (K : PySem.W.Frag) (n : Nat) (ns : List Str) (fs : List V → List (Str × V)) : Sp := fun vs H Q _ => ∃ (a C : Addr) (xs : List V), vs = .ref a :: xs ∧ xs.length = n ∧ OexC K C ∧ (∀ f, f ∈ ns → PySem.W.findIn K (.ref C) f = some none) ∧ (∀ x, x ∈ xs → FmtOk x) ∧
  H a = some (exo a C none) ∧ ∀ dx, H dx = none → dx ≠ a → Q .non (upd (upd H dx (exd dx (fs xs))) a (exo a C (some dx)))
section
variable {X : Cx}
theorem tFmt_ok {te : TE} {x : V} {σ : L2.St} {H : Hp} {Q : VK} (hx : FmtOk x) (h : te σ H fun y H1 => y = x ∧ H1 = H) (up : ∀ (Q Q' : VK), (∀ v H, Q v H → Q' v H) → te σ H Q → te σ H Q') (k : ∀ y : Str, y.length ≤ 1000 → Q (.str y) H) : tFmt te σ H Q := by
  refine up _ _ (fun v H1 e => ?_) h
  obtain ⟨rfl, rfl⟩ := e
  cases v with
  | int i => exact .inr ⟨i, rfl, hx.1, k _ hx.2⟩
  | str y => exact .inl ⟨y, rfl, Nat.le_trans hx (sz_le (by omega)), k y hx⟩
  | _ => exact hx.elim
end
/-- an own class of errors without an __init__ of its own -/
structure Er0 (K : PySem.W.Frag) (mg : Str → Option Value) (x : Str) : Prop where
  ex : ∃ C, mg x = some (.ref C) ∧ PySem.W.nsIn K mainGlobals x = some (some (.ref C)) ∧ PySem.W.keepIn K (.ref C) = true ∧ ∃ (B newId initId : String) (bmB : List Value), ExcBaseFacts B newId initId bmB ∧ PySem.W.excIn K C bmB newId = true
/-- an own class of errors with one -/
structure ErN (P : Program) (w : World) (K : PySem.W.Frag) (mg : Str → Option Value) (base : Heap) (k : Nat) (x : Str) (n : Nat) (ns : List Str) (fs : List V → List (Str × V)) : Prop where
  ex : ∃ C fI fd ps, mg x = some (.ref C) ∧ PySem.W.nsIn K mainGlobals x = some (some (.ref C)) ∧ OexC K C ∧ (∀ f, f ∈ ns → PySem.W.findIn K (.ref C) f = some none) ∧ PySem.W.findIn K (.ref C) "__init__" = some (some (.ref fI)) ∧ PySem.W.typeIn K (.ref fI) = some (.type "function") ∧
    FnOk P w K mg base CX0 k fI fd ps (spInit K n ns fs) ∧ Binds K fd ps []
abbrev erD (x : Str) (fs : List PyData) : PyData := .dict [(.str x, .list fs)]
@[simp] def wMk0 (x : Str) : DE := fun s Φ => Φ (erD x []) s
@[simp] def wMk1 (x f : Str) (wa : DA) : DE := fun s Φ => wa s fun ds s1 => match ds with
  | [d] => fmtD d ∧ Φ (erD x [.tuple [.str f, d]]) s1
  | _ => False
@[simp] def wMk2 (x f g : Str) (wa : DA) : DE := fun s Φ => wa s fun ds s1 => match ds with
  | [d, e] => (fmtD d ∧ fmtD e) ∧ Φ (erD x [.tuple [.str g, e], .tuple [.str f, d]]) s1
  | _ => False
theorem fmt_up {K : PySem.W.Frag} {F : Hp} {v : V} {d : PyData} (h : Dq K F v d) (f : fmtD d) : FmtOk v ∧ ∀ (n : Str) (fs : List (Str × V)) (xs : List PyData), FldF fs xs → FldF ((n, v) :: fs) (.tuple [.str n, d] :: xs) := by
  cases d with
  | int i => cases h; exact ⟨f, fun n fs xs q => .int q⟩
  | str y => cases h; exact ⟨f, fun n fs xs q => .str q⟩
  | _ => exact f.elim
section
variable {X : Cx} {e e2 : Expr} {es : List Expr} {p pos : Pos} {x : Str} {wa : DA}
theorem xe_mk0 (T : Er0 X.K X.mg x) (hg : Gl X x) (hdb : (x == ("__debug__" : Str)) = false := by decide) : XE X (.Call (.Name x p) [] [] pos) (wMk0 x) := by
  obtain ⟨C, gC, ns, kC, B, newId, initId, bmB, Fb, q⟩ := T.ex
  refine pe_imp (pe_oex0 Fb q gC kC hg hdb) fun σ H Q h => ?_
  obtain ⟨G, P, F, s, Φ, R, h, k⟩ := h
  intro a na
  have f := Fresh.new (o := exo a C none) R.same na
  exact k _ _ _ s _ (R.fresh f) f.ff (.xo ns upd_same (.inl ⟨rfl, rfl⟩) .nil) h
/-- the new object and its dict, as data -/
theorem new_er {K : PySem.W.Frag} {G F H : Hp} {P : Option Addr} {σ : L2.St} {s : S} {a dx C : Addr} {fs : List (Str × V)} {xs : List PyData} (R : Rep K G P F H σ s) (ns : PySem.W.nsIn K mainGlobals x = some (some (.ref C))) (na : H a = none) (nd : (upd H a (exo a C none)) dx = none) (ne : dx ≠ a) (hf : FldF fs xs) :
    ∃ F' H', upd (upd (upd H a (exo a C none)) dx (exd dx fs)) a (exo a C (some dx)) = H' ∧ Rep K G P F' H' σ s ∧ Same F F' ∧ Dq K F' (.ref a) (erD x xs) := by
  have nd1 : H dx = none := by
    rw [upd_ne ne] at nd
    exact nd
  have e1 : upd (upd (upd H a (exo a C none)) dx (exd dx fs)) a (exo a C (some dx)) = upd (upd H dx (exd dx fs)) a (exo a C (some dx)) := by
    funext b
    by_cases h1 : b = a
    · rw [h1, upd_same, upd_same]
    · rw [upd_ne h1, upd_ne h1]
      by_cases h2 : b = dx
      · rw [h2, upd_same, upd_same]
      · rw [upd_ne h2, upd_ne h2, upd_ne h1]
  have f1 := Fresh.new (o := exd dx fs) R.same nd1
  have R1 := R.fresh f1
  have na1 : (upd H dx (exd dx fs)) a = none := by rw [upd_ne (Ne.symm ne)]; exact na
  have f2 := Fresh.new (o := exo a C (some dx)) R1.same na1
  exact ⟨_, _, e1, R1.fresh f2, f1.ff.trans f2.ff, .xo ns upd_same (.inr ⟨dx, rfl, by rw [upd_ne ne, upd_same]⟩) hf⟩
theorem xe_mk1 {k kX : Nat} {f : Str} (T : ErN X.prog X.w X.K X.mg X.base k x 1 [f] (fun xs => [f].zip xs)) (hr : Room kX X.A) (hk : k + 1 ≤ kX) (hg : Gl X x) (ha : XA X (e :: es) wa) (hdb : (x == ("__debug__" : Str)) = false := by decide)
    (he : starEach (e :: es) X.env = (false, eval e X.env) :: starEach es X.env := by rfl) (hpl : (backTo pos (starEach es X.env)).any (·.1) = false := by rfl) : XE X (.Call (.Name x p) (e :: es) [] pos) (wMk1 x f wa) := by
  obtain ⟨C, fI, fd, ps, gC, ns, T, hno, iC, tI, F1, hb⟩ := T.ex
  refine pe_imp (pe_oex T iC tI F1 (hr.mono hk) hb pass0 hg gC ha hdb he hpl) fun σ H Q h => ?_
  obtain ⟨G, P, F, s, Φ, R, h, kk⟩ := h
  refine ⟨G, P, F, s, _, R, h, fun vs F1 H1 s1 ds R1 e1 d1 q => ?_⟩
  match ds, vs, d1, q with
  | [d], [v], .cons d2 .nil, q =>
    obtain ⟨fv, ff⟩ := fmt_up d2 q.1
    refine ⟨by show 1 ≤ 1000; decide, fun a na => ⟨a, C, [v], rfl, rfl, T, hno, fun y hy => by rw [List.mem_singleton.mp hy]; exact fv, upd_same, fun dx nd ne => ⟨rfl, ?_⟩⟩⟩
    obtain ⟨F', H', eH, R', sm, dq⟩ := new_er R1 ns na nd ne (ff f _ _ .nil)
    show Q (.ref a) (upd (upd (upd H1 a (exo a C none)) dx (exd dx [(f, v)])) a (exo a C (some dx)))
    rw [eH]
    exact kk _ F' H' s1 _ R' (e1.trans sm) dq q.2
theorem xe_mk2 {k kX : Nat} {f g : Str} (T : ErN X.prog X.w X.K X.mg X.base k x 2 [f, g] (fun xs => match xs with | [a, b] => [(g, b), (f, a)] | _ => [])) (hr : Room kX X.A) (hk : k + 1 ≤ kX) (hg : Gl X x) (ha : XA X (e :: es) wa) (hdb : (x == ("__debug__" : Str)) = false := by decide)
    (he : starEach (e :: es) X.env = (false, eval e X.env) :: starEach es X.env := by rfl) (hpl : (backTo pos (starEach es X.env)).any (·.1) = false := by rfl) : XE X (.Call (.Name x p) (e :: es) [] pos) (wMk2 x f g wa) := by
  obtain ⟨C, fI, fd, ps, gC, ns, T, hno, iC, tI, F1, hb⟩ := T.ex
  refine pe_imp (pe_oex T iC tI F1 (hr.mono hk) hb pass0 hg gC ha hdb he hpl) fun σ H Q h => ?_
  obtain ⟨G, P, F, s, Φ, R, h, kk⟩ := h
  refine ⟨G, P, F, s, _, R, h, fun vs F1 H1 s1 ds R1 e1 d1 q => ?_⟩
  match ds, vs, d1, q with
  | [d, d'], [v, v'], .cons d2 (.cons d3 .nil), q =>
    obtain ⟨fv, ff⟩ := fmt_up d2 q.1.1
    obtain ⟨fv', ff'⟩ := fmt_up d3 q.1.2
    refine ⟨by show 2 ≤ 1000; decide, fun a na => ⟨a, C, [v, v'], rfl, rfl, T, hno, fun y hy => ?_, upd_same, fun dx nd ne => ⟨rfl, ?_⟩⟩⟩
    · rcases List.mem_cons.mp hy with rfl | hy
      · exact fv
      · rw [List.mem_singleton.mp hy]
        exact fv'
    · obtain ⟨F', H', eH, R', sm, dq⟩ := new_er R1 ns na nd ne (ff' g _ _ (ff f _ _ .nil))
      show Q (.ref a) (upd (upd (upd H1 a (exo a C none)) dx (exd dx [(g, v'), (f, v)])) a (exo a C (some dx)))
      rw [eH]
      exact kk _ F' H' s1 _ R' (e1.trans sm) dq q.2
end
/-! isinstance of them, their fields -/
/-- the classes of the errors that may come, and what they say -/
structure ErsOk (K : PySem.W.Frag) (L : List Str) : Prop where
  ok : ∀ c, c ∈ L → ∀ D, PySem.W.nsIn K mainGlobals c = some (some (.ref D)) → ExcC K D
abbrev KitTab (K : PySem.W.Frag) (L : List Str) (cv : Value) (b : Str → Bool) : Prop := ∀ c, c ∈ L → ∀ D, PySem.W.nsIn K mainGlobals c = some (some (.ref D)) → PySem.W.kitOne K (.ref D) cv = some (b c)
abbrev NoFld (K : PySem.W.Frag) (L : List Str) (f : Str) : Prop := ∀ c, c ∈ L → ∀ D, PySem.W.nsIn K mainGlobals c = some (some (.ref D)) → PySem.W.findIn K (.ref D) f = some none
@[simp] def wIsX (L : List Str) (b : Str → Bool) (w : DE) : DE := fun s Φ => w s fun x s1 => match x with
  | .dict [(.str c, .list _)] => c ∈ L ∧ Φ (.bool (b c)) s1
  | _ => False
def fldAt (f : Str) : List PyData → Option PyData
  | .tuple [.str g, d] :: xs => if f = g then some d else fldAt f xs
  | _ => none
@[simp] def wFldX (L : List Str) (f : Str) (w : DE) : DE := fun s Φ => w s fun x s1 => match x with
  | .dict [(.str c, .list xs)] => c ∈ L ∧ optP (fldAt f xs) fun d => Φ d s1
  | _ => False
theorem XoAt.own {F H : Hp} {d : Option Addr} {fs : List (Str × V)} (e : Same F H) (h : XoAt F d fs) : d = none ∨ ∃ dd fs, d = some dd ∧ H dd = some (exd dd fs) := by
  rcases h with ⟨h, _⟩ | ⟨dd, h1, h2⟩
  · exact .inl h
  · exact .inr ⟨dd, fs, h1, e _ _ h2⟩
theorem fld_get {K : PySem.W.Frag} {F : Hp} {f : Str} {fs : List (Str × V)} {xs : List PyData} {d : PyData} (h : FldF fs xs) (e : fldAt f xs = some d) : ∃ v, fs.lookup f = some v ∧ Dq K F v d := by
  have eqs : ∀ a b : Str, (a == b) = decide (a = b) := fun a b => by
    by_cases h : a = b
    · rw [h]; simp
    · rw [beq_eq_false_iff_ne.mpr h, decide_eq_false h]
  induction h with
  | nil => cases e
  | @int g i fs xs h ih =>
    unfold fldAt at e
    rw [List.lookup_cons, eqs]
    by_cases q : f = g
    · rw [if_pos q] at e
      rw [decide_eq_true q]
      exact ⟨_, rfl, by cases e; exact .int i⟩
    · rw [if_neg q] at e
      rw [decide_eq_false q]
      exact ih e
  | @str g y fs xs h ih =>
    unfold fldAt at e
    rw [List.lookup_cons, eqs]
    by_cases q : f = g
    · rw [if_pos q] at e
      rw [decide_eq_true q]
      exact ⟨_, rfl, by cases e; exact .str y⟩
    · rw [if_neg q] at e
      rw [decide_eq_false q]
      exact ih e
section
variable {X : Cx} {e : Expr} {p p1 pos : Pos} {w : DE} {L : List Str} {b : Str → Bool}
theorem isX_of {v : V} {cv : Value} (hcv : ∀ u, RelV v u → u = cv) (E : ErsOk X.K L) (kb : KitTab X.K L cv b) (σ : L2.St) (H : Hp) (Q : VK) (h : tE X.K (wIsX L b w) σ H Q) :
    tE X.K w σ H fun y H1 => (tCons (tC v) tNil) σ H1 fun vs H2 => rIsX X.K (y :: vs) H2 Q := by
  obtain ⟨G, P, F, s, Φ, R, h, k⟩ := h
  refine ⟨G, P, F, s, _, R, h, fun y F1 H1 s1 x R1 e1 d1 q => ?_⟩
  match x, d1, q with
  | .dict [(.str c, .list _)], .xo ns ha ho hf, q =>
    exact ⟨_, _, _, v, cv, b c, rfl, E.ok c q.1 _ ns, R1.same _ _ ha, ho.own R1.same, hcv, kb c q.1 _ ns, k _ F1 H1 s1 _ R1 e1 (.bl _) q.2⟩
/-- isinstance(e, C), C an own class -/
theorem xe_isX {T : Str} {C : Addr} (E : ErsOk X.K L) (kb : KitTab X.K L (.ref C) b) (gC : X.mg T = some (.ref C)) (hg : Gl X "isinstance") (hm : X.mg "isinstance" = none) (hgT : Gl X T) (h : XE X e w) (hd : (T == ("__debug__" : Str)) = false := by decide)
    (he : starEach [e, .Name T p1] X.env = (false, eval e X.env) :: starEach [.Name T p1] X.env := by rfl) (he2 : starEach [.Name T p1] X.env = (false, eval (.Name T p1) X.env) :: starEach [] X.env := by rfl) (hpl : (backTo pos (starEach [.Name T p1] X.env)).any (·.1) = false := by rfl) :
    XE X (.Call (.Name "isinstance" p) [e, .Name T p1] [] pos) (wIsX L b w) :=
  pe_imp (pe_callB call_isX hg hm (by decide +kernel) (pa_cons h (pa_cons (pe_glob (v := .ref C) hgT gC rfl hd) pa_nil he2) he) (by decide) (by decide) he hpl) fun σ H Q h => isX_of (v := .ref C) (cv := .ref C) (fun u z => z) E kb σ H Q h
/-- isinstance(e, T), T of the builtins -/
theorem xe_isXT {T : Str} {n : String} (E : ErsOk X.K L) (kb : KitTab X.K L (.type n) b) (hmT : X.mg T = none) (hvT : bootBuiltins T = some (.type n)) (hg : Gl X "isinstance") (hm : X.mg "isinstance" = none) (hgT : Gl X T) (h : XE X e w) (hn : T ≠ "__name__" := by decide) (hd : (T == ("__debug__" : Str)) = false := by decide)
    (he : starEach [e, .Name T p1] X.env = (false, eval e X.env) :: starEach [.Name T p1] X.env := by rfl) (he2 : starEach [.Name T p1] X.env = (false, eval (.Name T p1) X.env) :: starEach [] X.env := by rfl) (hpl : (backTo pos (starEach [.Name T p1] X.env)).any (·.1) = false := by rfl) :
    XE X (.Call (.Name "isinstance" p) [e, .Name T p1] [] pos) (wIsX L b w) :=
  pe_imp (pe_callB call_isX hg hm (by decide +kernel) (pa_cons h (pa_cons (pe_bltn (v := .ty n) hgT hmT hvT rfl hn hd) pa_nil he2) he) (by decide) (by decide) he hpl) fun σ H Q h => isX_of (v := .ty n) (cv := .type n) (fun u z => z) E kb σ H Q h
theorem ers_xf {K : PySem.W.Frag} {D : Addr} (h : ExcC K D) : XfC K D := ⟨h.hg, h.hk, h.hs, h.hd⟩
/-- e.f -/
theorem xe_fldX {f : Str} (E : ErsOk X.K L) (nf : NoFld X.K L f) (h : XE X e w) (hb : attributeBase e f X.env (eval e X.env) = eval e X.env := by rfl) : XE X (.Attribute e f pos) (wFldX L f w) :=
  pe_imp (pe_fldX h hb) fun σ H Q h => by
    obtain ⟨G, P, F, s, Φ, R, h, k⟩ := h
    refine ⟨G, P, F, s, _, R, h, fun y F1 H1 s1 x R1 e1 d1 q => ?_⟩
    match x, d1, q with
    | .dict [(.str c, .list xs)], .xo ns ha ho hf, q =>
      obtain ⟨d, ed, q2⟩ := optP_of q.2
      obtain ⟨v, ev, dv⟩ := fld_get (K := X.K) (F := F1) hf ed
      rcases ho with ⟨_, e0⟩ | ⟨dd, h1, h2⟩
      · rw [e0] at ev
        cases ev
      · subst h1
        exact ⟨_, _, dd, _, v, rfl, R1.same _ _ ha, R1.same _ _ h2, ev, ers_xf (E.ok c q.1 _ ns), nf c q.1 _ ns, k _ F1 H1 s1 _ R1 e1 dv q2⟩
end
/-! facts of the written part, by looking them all up -/
def adrs (K : PySem.W.Frag) (L : List Str) (p : Addr → Bool) : Bool := L.all fun c => match PySem.W.nsIn K mainGlobals c with
  | some (some (.ref D)) => p D
  | _ => true
theorem adrs_ok {K : PySem.W.Frag} {L : List Str} {p : Addr → Bool} (h : adrs K L p = true) : ∀ c, c ∈ L → ∀ D, PySem.W.nsIn K mainGlobals c = some (some (.ref D)) → p D = true := fun c hc D e => by
  have := List.all_eq_true.mp h c hc
  rw [e] at this
  exact this
end DL
/-! DL: own errors of a text, all together -/
namespace DL
open PySem PySem.Spec PyProof.Rows L2
def mt0 : Stmt → Stmt
  | .ClassDef _ _ _ body _ _ _ _ _ _ _ => body.headD (.Pass ⟨0, 0, 0, 0⟩)
  | st => st
section
variable {P : Program} {w : World} {K : PySem.W.Frag} {mg : Str → Option Value} {base : Heap}
theorem fmt1 {σ : L2.St} {H : Hp} {x : V} {i : Nat} (hx : FmtOk x) {Q : VK} (q : ∀ y : Str, y.length ≤ 1000 → Q (.str y) H) (h : σ[i]? = some (some x)) : tFmt (tVar i) σ H Q := by
  refine ⟨x, h, ?_⟩
  cases x with
  | int i => exact .inr ⟨i, rfl, hx.1, q _ hx.2⟩
  | str y => exact .inl ⟨y, rfl, Nat.le_trans hx (sz_le (by omega)), q y hx⟩
  | _ => exact hx.elim
theorem app_len (x y : Str) : (x ++ y).length = x.length + y.length := Str.length_append x y
theorem init1 {f m : Str} {a C : Addr} {x : V} {H : Hp} {Q : VK} (T : OexC K C) (no : PySem.W.findIn K (.ref C) f = some none) (hx : FmtOk x) (ha : H a = some (exo a C none))
    (k : ∀ dx, H dx = none → dx ≠ a → Q .non (upd (upd H dx (exd dx [(f, x)])) a (exo a C (some dx)))) (hm : m.length ≤ 1000) {σ : L2.St} (v0 : σ[0]? = some (some (.ref a))) (v1 : σ[1]? = some (some x)) :
    tSeq (tDrop (tVeI K (tCons (tVar 0) (tCons (fun σ H Q => tJs [tC (V.str m), tFmt (tVar 1)] Str.empty σ H fun out H1 => Q (V.str out) H1) tNil)))) (tOst K f (tVar 0) (tVar 1)) { nx := fun x H' => Q V.non H', rt := Q } σ H := by
  have e0 : Str.empty.length = 0 := rfl
  refine ⟨.ref a, v0, m, rfl, by rw [app_len]; exact sz_le (by omega), fmt1 hx (fun y hy => ⟨y, rfl, by rw [app_len, app_len]; exact sz_le (by omega), a, C, [_], rfl, (show 1 ≤ 1000 by decide), T, ha, ?_⟩) v1⟩
  exact ⟨x, v1, .ref a, v0, a, C, rfl, T, no, .inl ⟨ha, k⟩⟩
theorem init2 {f g m m2 : Str} {a C : Addr} {x y : V} {H : Hp} {Q : VK} (T : OexC K C) (no : PySem.W.findIn K (.ref C) f = some none) (no2 : PySem.W.findIn K (.ref C) g = some none) (hx : FmtOk x) (hy : FmtOk y) (ha : H a = some (exo a C none))
    (k : ∀ dx, H dx = none → dx ≠ a → Q .non (upd (upd H dx (exd dx [(g, y), (f, x)])) a (exo a C (some dx)))) (hm : m.length ≤ 1000) (hm2 : m2.length ≤ 1000) {σ : L2.St} (v0 : σ[0]? = some (some (.ref a))) (v1 : σ[1]? = some (some x)) (v2 : σ[2]? = some (some y)) :
    tSeq (tDrop (tVeI K (tCons (tVar 0) (tCons (fun σ H Q => tJs [tC (V.str m), tFmt (tVar 1), tC (V.str m2), tFmt (tVar 2)] Str.empty σ H fun out H1 => Q (V.str out) H1) tNil)))) (tSeq (tOst K f (tVar 0) (tVar 1)) (tOst K g (tVar 0) (tVar 2))) { nx := fun x H' => Q V.non H', rt := Q } σ H := by
  have e0 : Str.empty.length = 0 := rfl
  refine ⟨.ref a, v0, m, rfl, by rw [app_len]; exact sz_le (by omega), fmt1 hx (fun u hu => ⟨u, rfl, by rw [app_len, app_len]; exact sz_le (by omega), m2, rfl, by rw [app_len, app_len, app_len]; exact sz_le (by omega), fmt1 hy (fun z hz => ⟨z, rfl, by rw [app_len, app_len, app_len, app_len]; exact sz_le (by omega), a, C, [_], rfl, (show 1 ≤ 1000 by decide), T, ha, ?_⟩) v2⟩) v1⟩
  refine ⟨x, v1, .ref a, v0, a, C, rfl, T, no, .inl ⟨ha, fun dx nd ne => ?_⟩⟩
  refine ⟨y, v2, .ref a, v0, a, C, rfl, T, no2, .inr ⟨dx, [(f, x)], upd_same, ?_, by show 1 ≤ 900; decide, ?_⟩⟩
  · rw [upd_ne ne, upd_same]
  · have e : upd (upd (upd H dx (exd dx [(f, x)])) a (exo a C (some dx))) dx (exd dx [(g, y), (f, x)]) = upd (upd H dx (exd dx [(g, y), (f, x)])) a (exo a C (some dx)) := by
      funext b
      by_cases h1 : b = dx
      · rw [h1, upd_same, upd_ne ne, upd_same]
      · rw [upd_ne h1]
        by_cases h2 : b = a
        · rw [h2, upd_same, upd_same]
        · rw [upd_ne h2, upd_ne h1, upd_ne h2, upd_ne h1]
    rw [e]
    exact k dx nd ne
/-- an own __init__ stands -/
structure InitK (K : PySem.W.Frag) (C : Addr) (qual : Str) (st : Stmt) : Prop where
  ex : ∃ fI fd, PySem.W.findIn K (.ref C) "__init__" = some (some (.ref fI)) ∧ PySem.W.typeIn K (.ref fI) = some (.type "function") ∧ Fun K "__init__" qual st fI fd
theorem InitK.mk5 {C fI : Addr} {qual : Str} {st : Stmt} {oc : Value} {od an : Option Addr} {osl : Array (Option Value)} {kV doc pm cdv ct : Value} (ii : PySem.W.findIn K (.ref C) "__init__" = some (some (.ref fI))) (ti : PySem.W.typeIn K (.ref fI) = some (.type "function"))
    (l : K.lookup fI = some ⟨oc, od, .func (PySem.W.fnOf "__init__" qual (defArgs st) (defBody st) (defScope st) .none kV doc pm an cdv ct), osl⟩) (c : PySem.W.codeIn K cdv qual = true) (k : PySem.W.keepIn K (.ref fI) = true) : InitK K C qual st :=
  ⟨fI, _, ii, ti, fun_mk l c k⟩
theorem oexC_mk {C : Addr} {nm q N bs bm sn sub ab col dd k0 k1 k2 k3 k5} (l : K.lookup C = some (excClassObj nm q C N bs bm true sn sub ab col dd k0 k1 k2 k3 k5 "ValueError.__new__")) (r : PySem.HandSPX.refsVE bm = true)
    (sa : PySem.W.findIn K (.ref C) "__setattr__" = some (some (.builtin "object.__setattr__"))) (e : PySem.W.subIn K (.ref C) (.type "BaseException") = some true) (t : PySem.W.typeIn K (.ref C) = some (.type "type")) (k : PySem.W.keepIn K (.ref C) = true) : OexC K C :=
  ⟨⟨nm, q, N, bs, bm, sn, sub, ab, col, dd, k0, k1, k2, k3, k5, l, r⟩, sa, e, t, k⟩
theorem baseC_mk {B : Addr} (sp : PySem.W.specialIn K (.ref B) "__getattribute__" = some (some (.builtin "type.__getattribute__"))) (rd : PySem.W.readsIn K B (.type "type") = true) (vV : PySem.W.findCls K (.ref B) (.type "type") "__init__" = some (.val (.builtin "ValueError.__init__"))) (kp : PySem.W.keepIn K (.ref B) = true) : BaseC K B := ⟨sp, rd, vV, kp⟩
def excCb (K : PySem.W.Frag) (D : Addr) : Bool :=
  PySem.W.findIn K (.ref D) "__getattribute__" == some (some (.builtin "BaseException.__getattribute__")) && PySem.W.findIn K (.ref D) "__getattr__" == some none && PySem.W.subIn K (.ref D) (.type "BaseException") == some true && PySem.W.hasDictIn K D &&
  PySem.W.findIn K (.ref D) "__class__" == some (some (.builtin "object.__class__")) && PySem.W.specialIn K (.builtin "object.__class__") "__get__" == some (some (.builtin "getset_descriptor.__get__")) && PySem.W.takesIn K (.builtin "object.__class__") == some true && PySem.W.mroIn K D (.type "object") == some true
theorem excCb_ok {D : Addr} (h : excCb K D = true) : ExcC K D := by
  unfold excCb at h
  simp only [Bool.and_eq_true, beq_iff_eq] at h
  obtain ⟨⟨⟨⟨⟨⟨⟨h1, h2⟩, h3⟩, h4⟩, h5⟩, h6⟩, h7⟩, h8⟩ := h
  exact ⟨h1, h2, h3, h4, h5, h6, h7, h8⟩
/-- the own errors: their classes, what isinstance says of them, what they have as a field -/
structure Ers (K : PySem.W.Frag) (mg : Str → Option Value) (L : List Str) (b : Str → Str → Bool) (FL : List Str) : Prop where
  ok : ErsOk K L
  kit : ∀ x, x ∈ L → ∃ C, mg x = some (.ref C) ∧ KitTab K L (.ref C) (b x)
  kitV : KitTab K L (.type "ValueError") (fun _ => true)
  mV : mg "ValueError" = none
  fld : ∀ f, f ∈ FL → NoFld K L f
  ns : ∀ c, c ∈ L → ∀ C, mg c = some (.ref C) → PySem.W.nsIn K mainGlobals c = some (some (.ref C))
  exm : ∀ x, x ∈ L → ∀ c, c ∈ L → ∀ C D, mg x = some (.ref C) → mg c = some (.ref D) → PySem.W.exmOne K (.ref D) (.ref C) = some (b x c)
/-- the address of a class -/
def adr (K : PySem.W.Frag) (x : Str) : Option Addr := match PySem.W.nsIn K mainGlobals x with
  | some (some (.ref D)) => some D
  | _ => none
theorem adr_iff {x : Str} {D : Addr} : adr K x = some D ↔ PySem.W.nsIn K mainGlobals x = some (some (.ref D)) := by
  unfold adr
  split
  · rename_i E e
    rw [e]
    constructor
    · intro z; cases z; rfl
    · intro z; cases z; rfl
  · rename_i h
    constructor
    · intro z; cases z
    · intro z; exact absurd z (h _)
def onA (o : Option Addr) (p : Addr → Bool) : Bool := match o with
  | some D => p D
  | none => false
theorem onA_of {o : Option Addr} {p : Addr → Bool} (h : onA o p = true) : ∃ D, o = some D ∧ p D = true := by
  cases o with
  | none => cases h
  | some D => exact ⟨D, rfl, h⟩
def tabE (K : PySem.W.Frag) (L : List Str) (b : Str → Str → Bool) (FL : List Str) : Bool :=
  L.all fun x => onA (adr K x) fun C => excCb K C && (L.all fun c => onA (adr K c) fun D => PySem.W.kitOne K (.ref D) (.ref C) == some (b x c) && PySem.W.exmOne K (.ref D) (.ref C) == some (b x c)) && PySem.W.kitOne K (.ref C) (.type "ValueError") == some true && FL.all fun f => PySem.W.findIn K (.ref C) f == some none
theorem ers_mk {h : Heap} {L FL : List Str} {b : Str → Str → Bool} (X : K.In h) (G : h.Ns mainGlobals mg) (z : PySem.W.nsIn K mainGlobals "ValueError" = some none) (t : tabE K L b FL = true) : Ers K mg L b FL := by
  have a : ∀ x, x ∈ L → ∃ C, adr K x = some C ∧ excCb K C = true ∧ (∀ c, c ∈ L → ∃ D, adr K c = some D ∧ PySem.W.kitOne K (.ref D) (.ref C) = some (b x c) ∧ PySem.W.exmOne K (.ref D) (.ref C) = some (b x c)) ∧ PySem.W.kitOne K (.ref C) (.type "ValueError") = some true ∧ ∀ f, f ∈ FL → PySem.W.findIn K (.ref C) f = some none := fun x hx => by
    obtain ⟨C, e, h⟩ := onA_of (List.all_eq_true.mp t x hx)
    simp only [Bool.and_eq_true, beq_iff_eq] at h
    obtain ⟨⟨⟨h1, h2⟩, h3⟩, h4⟩ := h
    refine ⟨C, e, h1, fun c hc => ?_, h3, fun f hf => ?_⟩
    · obtain ⟨D, e, h⟩ := onA_of (List.all_eq_true.mp h2 c hc)
      simp only [Bool.and_eq_true, beq_iff_eq] at h
      exact ⟨D, e, h⟩
    · exact beq_iff_eq.mp (List.all_eq_true.mp h4 f hf)
  have ns : ∀ c, c ∈ L → ∀ C, mg c = some (.ref C) → adr K c = some C := fun c hc C e => by
    obtain ⟨D, e1, _⟩ := a c hc
    rw [PySem.W.mg_of X G (adr_iff.mp e1)] at e
    cases e
    exact e1
  refine ⟨⟨fun c hc D e => ?_⟩, fun x hx => ?_, fun c hc D e => ?_, PySem.W.mg_none_of X G z, fun f hf c hc D e => ?_, fun c hc C e => adr_iff.mp (ns c hc C e), fun x hx c hc C D e1 e2 => ?_⟩
  · obtain ⟨C, e1, h1, _⟩ := a c hc
    rw [adr_iff.mpr e] at e1
    cases e1
    exact excCb_ok h1
  · obtain ⟨C, e1, _, h2, _⟩ := a x hx
    refine ⟨C, PySem.W.mg_of X G (adr_iff.mp e1), fun c hc D e => ?_⟩
    obtain ⟨D', e2, q⟩ := h2 c hc
    rw [adr_iff.mpr e] at e2
    cases e2
    exact q.1
  · obtain ⟨C, e1, _, _, h3, _⟩ := a c hc
    rw [adr_iff.mpr e] at e1
    cases e1
    exact h3
  · obtain ⟨C, e1, _, _, _, h4⟩ := a c hc
    rw [adr_iff.mpr e] at e1
    cases e1
    exact h4 f hf
  · obtain ⟨C', e3, _, h2, _⟩ := a x hx
    rw [ns x hx C e1] at e3
    cases e3
    obtain ⟨D', e4, q⟩ := h2 c hc
    rw [ns c hc D e2] at e4
    cases e4
    exact q.2
/-- those without an __init__ -/
def tab0 (K : PySem.W.Frag) (L : List Str) : Bool := L.all fun x => onA (adr K x) fun C => PySem.W.keepIn K (.ref C) && PySem.W.excIn K C [.type "ValueError", .type "Exception", .type "BaseException", .type "object"] "ValueError.__new__"
theorem er0_mk {h : Heap} {L : List Str} (X : K.In h) (G : h.Ns mainGlobals mg) (t : tab0 K L = true) : ∀ x, x ∈ L → Er0 K mg x := fun x hx => by
  obtain ⟨C, e, h⟩ := onA_of (List.all_eq_true.mp t x hx)
  simp only [Bool.and_eq_true] at h
  have e := adr_iff.mp e
  exact ⟨C, PySem.W.mg_of X G e, e, h.1, _, _, _, _, PySem.F.excBase_ValueError, h.2⟩
theorem erN_mk {h : Heap} {C fI : Addr} {fd : FuncData} {k n : Nat} {x : Str} {ps ns : List Str} {fs : List V → List (Str × V)} (X : K.In h) (G : h.Ns mainGlobals mg) (a : PySem.W.nsIn K mainGlobals x = some (some (.ref C))) (o : OexC K C) (no : ∀ f, f ∈ ns → PySem.W.findIn K (.ref C) f = some none)
    (ii : PySem.W.findIn K (.ref C) "__init__" = some (some (.ref fI))) (ti : PySem.W.typeIn K (.ref fI) = some (.type "function")) (F : FnOk P w K mg base CX0 k fI fd ps (spInit K n ns fs)) (b : Binds K fd ps []) : ErN P w K mg base k x n ns fs :=
  ⟨C, fI, fd, ps, PySem.W.mg_of X G a, a, o, no, ii, ti, F, b⟩
end
section
variable {X : Cx} {e : Expr} {p p1 pos : Pos} {w : DE} {L FL : List Str} {b : Str → Str → Bool}
theorem xe_isY {T : Str} (E : Ers X.K X.mg L b FL) (hT : T ∈ L) (hg : Gl X "isinstance") (hm : X.mg "isinstance" = none) (hgT : Gl X T) (h : XE X e w) (hd : (T == ("__debug__" : Str)) = false := by decide)
    (he : starEach [e, .Name T p1] X.env = (false, eval e X.env) :: starEach [.Name T p1] X.env := by rfl) (he2 : starEach [.Name T p1] X.env = (false, eval (.Name T p1) X.env) :: starEach [] X.env := by rfl) (hpl : (backTo pos (starEach [.Name T p1] X.env)).any (·.1) = false := by rfl) :
    XE X (.Call (.Name "isinstance" p) [e, .Name T p1] [] pos) (wIsX L (b T) w) := by
  obtain ⟨C, gC, kb⟩ := E.kit T hT
  exact xe_isX E.ok kb gC hg hm hgT h hd he he2 hpl
theorem xe_isYV (E : Ers X.K X.mg L b FL) (hg : Gl X "isinstance") (hm : X.mg "isinstance" = none) (hgT : Gl X "ValueError") (h : XE X e w)
    (he : starEach [e, .Name "ValueError" p1] X.env = (false, eval e X.env) :: starEach [.Name "ValueError" p1] X.env := by rfl) (he2 : starEach [.Name "ValueError" p1] X.env = (false, eval (.Name "ValueError" p1) X.env) :: starEach [] X.env := by rfl) (hpl : (backTo pos (starEach [.Name "ValueError" p1] X.env)).any (·.1) = false := by rfl) :
    XE X (.Call (.Name "isinstance" p) [e, .Name "ValueError" p1] [] pos) (wIsX L (fun _ => true) w) :=
  xe_isXT E.ok E.kitV E.mV PyProof.Rows.Boot.«ValueError» hg hm hgT h (by decide) (by decide) he he2 hpl
theorem xe_fldY {f : Str} (E : Ers X.K X.mg L b FL) (hf : f ∈ FL) (h : XE X e w) (hb : attributeBase e f X.env (eval e X.env) = eval e X.env := by rfl) : XE X (.Attribute e f pos) (wFldX L f w) := xe_fldX E.ok (E.fld f hf) h hb
end
section
variable {X : Cx}
/-- a, b, c = e1, e2, e3, all plain names -/
@[simp] def wPar3 (i j l : Nat) (w : DA) : DS := fun Φ s => w s fun xs s1 => match xs with
  | [x, y, z] => Φ.nx (((s1.put i (.d x)).put j (.d y)).put l (.d z))
  | _ => False
theorem xs_par3 {i j l : Nat} {x y z : Str} {a b c : Expr} {w : DA} {px py pz pt pos : Pos} {kt k2 : Nat} {pt2 : Pos} (hc : X.calm = true) (hN : X.N.Nodup) (hi : X.N[i]? = some x) (hj : X.N[j]? = some y) (hl : X.N[l]? = some z) (hij : i ≠ j) (hil : i ≠ l) (hjl : j ≠ l)
    (hx : X.env.scope.names.lookup x = some .local) (hy : X.env.scope.names.lookup y = some .local) (hz : X.env.scope.names.lookup z = some .local) (ha : XA X [a, b, c] w)
    (hw : swappedStores [.Tuple [.Name x px, .Name y py, .Name z pz] kt pt] (.Tuple [a, b, c] k2 pt2) X.env = pure (some [x, y, z]))
    (hs : swapsWithSole [.Tuple [.Name x px, .Name y py, .Name z pz] kt pt] (.Tuple [a, b, c] k2 pt2) pos.line X.env = pure false := by rfl) : XS X (.Assign [.Tuple [.Name x px, .Name y py, .Name z pz] kt pt] (.Tuple [a, b, c] k2 pt2) pos) (wPar3 i j l w) :=
  ps_imp (ps_par3 hc hN hi hj hl hij hil hjl hx hy hz ha hw hs) fun D σ H h => by
    obtain ⟨G, P, F, s, Φ, R, h, b⟩ := h
    refine ⟨G, P, F, s, _, R, h, fun vs F' H' s' xs R' e d q => ?_⟩
    match xs, d, q with
    | [x, y, z], .cons d1 (.cons d2 (.cons d3 .nil)), q => exact ⟨_, _, _, rfl, b.nx _ F' H' _ (((R'.setD d1).setD d2).setD d3) e q⟩
end
end DL
/-! DL: raise of own errors with an own __init__ -/
namespace DL
open PySem PySem.Spec PyProof.Rows L2
@[simp] def wRaise1 (x f : Str) (wa : DA) : DS := fun Φ s => wa s fun ds s1 => match ds with
  | [d] => fmtD d ∧ Φ.ex x [.tuple [.str f, d]] s1
  | _ => False
@[simp] def wRaise2 (x f g : Str) (wa : DA) : DS := fun Φ s => wa s fun ds s1 => match ds with
  | [d, e] => (fmtD d ∧ fmtD e) ∧ Φ.ex x [.tuple [.str g, e], .tuple [.str f, d]] s1
  | _ => False
/-- the heap behind C(e, ..): its dict alone stands -/
theorem gone_er {H : Hp} {a dx C : Addr} {fs : List (Str × V)} {o : HO} (na : H a = none) (ne : dx ≠ a) : upd (del (upd (upd (upd H a (exo a C none)) dx (exd dx fs)) a (exo a C (some dx))) a) dx o = upd H dx o := by
  funext b
  by_cases h : b = dx
  · rw [h, upd_same, upd_same]
  · rw [upd_ne h, upd_ne h]
    by_cases h2 : b = a
    · rw [h2, del_same, na]
    · rw [del_ne h2, upd_ne h2, upd_ne h, upd_ne h2]
section
variable {X : Cx} {e : Expr} {es : List Expr} {p p2 pos : Pos} {x : Str} {wa : DA}
theorem xs_raise1 {k kX : Nat} {f : Str} (hc : X.calm = true) (T : ErN X.prog X.w X.K X.mg X.base k x 1 [f] (fun xs => [f].zip xs)) (hr : Room kX X.A) (hk : k + 1 ≤ kX) (hg : Gl X x) (ha : XA X (e :: es) wa) (hdb : (x == ("__debug__" : Str)) = false := by decide)
    (he : starEach (e :: es) X.env = (false, eval e X.env) :: starEach es X.env := by rfl) (hpl : (backTo p2 (starEach es X.env)).any (·.1) = false := by rfl) : XS X (.Raise (some (.Call (.Name x p) (e :: es) [] p2)) none pos) (wRaise1 x f wa) := by
  obtain ⟨C, fI, fd, ps, gC, ns, T, hno, iC, tI, F1, hb⟩ := T.ex
  refine ps_imp (ps_raise hc (takes_wish X) (pmk_oex T iC tI F1 (hr.mono hk) hb .nil pass0 hg gC ha hdb he hpl)) fun D σ H h => ?_
  obtain ⟨G, P, F, s, Φ, R, h, b⟩ := h
  refine ⟨G, P, F, s, _, R, h, fun vs F1 H1 s1 ds R1 e1 d1 q => ?_⟩
  match ds, vs, d1, q with
  | [d], [v], .cons d2 .nil, q =>
    obtain ⟨fv, ff⟩ := fmt_up d2 q.1
    refine ⟨by show 1 ≤ 1000; decide, fun a na => ⟨a, C, [v], rfl, rfl, T, hno, fun y hy => by rw [List.mem_singleton.mp hy]; exact fv, upd_same, fun dx nd ne => ⟨rfl, dx, [(f, v)], upd_same, by rw [upd_ne ne, upd_same]; rfl, ?_, ?_⟩⟩⟩
    · rw [upd_ne ne] at nd
      exact nd
    · have nd1 : H1 dx = none := by
        rw [upd_ne ne] at nd
        exact nd
      show wishOf X (.ref C) (some dx) σ (upd (del (upd (upd (upd H1 a (exo a C none)) dx (exd dx [(f, v)])) a (exo a C (some dx))) a) dx (.xd [(f, v)]))
      rw [gone_er na ne]
      have f1 := Fresh.new (o := .xd [(f, v)]) R1.same nd1
      exact (b.ex x _ σ _ _ s1 (R1.fresh f1) (e1.trans f1.ff) q.2 C gC).2 (fun z => by cases z) dx _ upd_same (ff f _ _ .nil)
theorem xs_raise2 {k kX : Nat} {f g : Str} (hc : X.calm = true) (T : ErN X.prog X.w X.K X.mg X.base k x 2 [f, g] (fun xs => match xs with | [a, b] => [(g, b), (f, a)] | _ => [])) (hr : Room kX X.A) (hk : k + 1 ≤ kX) (hg : Gl X x) (ha : XA X (e :: es) wa) (hdb : (x == ("__debug__" : Str)) = false := by decide)
    (he : starEach (e :: es) X.env = (false, eval e X.env) :: starEach es X.env := by rfl) (hpl : (backTo p2 (starEach es X.env)).any (·.1) = false := by rfl) : XS X (.Raise (some (.Call (.Name x p) (e :: es) [] p2)) none pos) (wRaise2 x f g wa) := by
  obtain ⟨C, fI, fd, ps, gC, ns, T, hno, iC, tI, F1, hb⟩ := T.ex
  refine ps_imp (ps_raise hc (takes_wish X) (pmk_oex T iC tI F1 (hr.mono hk) hb .nil pass0 hg gC ha hdb he hpl)) fun D σ H h => ?_
  obtain ⟨G, P, F, s, Φ, R, h, b⟩ := h
  refine ⟨G, P, F, s, _, R, h, fun vs F1 H1 s1 ds R1 e1 d1 q => ?_⟩
  match ds, vs, d1, q with
  | [d, d'], [v, v'], .cons d2 (.cons d3 .nil), q =>
    obtain ⟨fv, ff⟩ := fmt_up d2 q.1.1
    obtain ⟨fv', ff'⟩ := fmt_up d3 q.1.2
    refine ⟨by show 2 ≤ 1000; decide, fun a na => ⟨a, C, [v, v'], rfl, rfl, T, hno, fun y hy => ?_, upd_same, fun dx nd ne => ⟨rfl, dx, [(g, v'), (f, v)], upd_same, by rw [upd_ne ne, upd_same], ?_, ?_⟩⟩⟩
    · rcases List.mem_cons.mp hy with rfl | hy
      · exact fv
      · rw [List.mem_singleton.mp hy]
        exact fv'
    · rw [upd_ne ne] at nd
      exact nd
    · have nd1 : H1 dx = none := by
        rw [upd_ne ne] at nd
        exact nd
      show wishOf X (.ref C) (some dx) σ (upd (del (upd (upd (upd H1 a (exo a C none)) dx (exd dx [(g, v'), (f, v)])) a (exo a C (some dx))) a) dx (.xd [(g, v'), (f, v)]))
      rw [gone_er na ne]
      have f1 := Fresh.new (o := .xd [(g, v'), (f, v)]) R1.same nd1
      exact (b.ex x _ σ _ _ s1 (R1.fresh f1) (e1.trans f1.ff) q.2 C gC).2 (fun z => by cases z) dx _ upd_same (ff' g _ _ (ff f _ _ .nil))
end
end DL
/-! DL: try .. except X as e: .. except Y as e: .., clause by clause -/
namespace DL
open PySem PySem.Spec PyProof.Rows L2
/-- an error is caught: its flight, where it may land again, what lets it go on -/
structure Caught (X : Cx) (pins : List (Addr × Obj)) (σ : L2.St) (H : Hp) (B : Heap) (a : Addr) (cls : Value) (d : Option Addr) (s : Shared) : Prop where
  fl : HandSPX.FlyingZ B (X.env :: X.outer) a (Zc cls d) s.heap
  no : H a = none
  land : ∀ g, B.StaysIn g → s.heap.UpToSlots g → Inv X pins σ H { s with heap := g }
  out : ∀ W : WX, Takes X W → W cls d σ H → ∀ g, HandSPX.HeldZ B (X.env :: X.outer) a (Zc cls d) X.env.locals g → s.heap.UpToSlots g → X.xe (.ref a) { s with heap := g }
section
variable {X : Cx} {pins : List (Addr × Obj)} {σ : L2.St} {H : Hp} {B : Heap} {a : Addr} {cls : Value} {d : Option Addr} {s : Shared}
theorem Caught.inv (c : Caught X pins σ H B a cls d s) : Inv X pins σ H s := c.land s.heap c.fl.1 (Heap.UpToSlots.refl _)
theorem Caught.at (hf : X.env.frame = some X.env.locals) (c : Caught X pins σ H B a cls d s) : ∃ oe, Zc cls d oe ∧ (∃ vs, oe.data = .fields vs) ∧ s.heap.get? a = some oe ∧ ∀ g, B.StaysIn g → s.heap.UpToSlots g → g.get? a = some oe → Inv (X.suite a ((a, oe) :: (X.pn ++ pins))) [] σ H { s with heap := g } := by
  obtain ⟨oe, vs, he, hz, hd⟩ := c.fl.there
  have out : a ∉ frs (X.env :: X.outer) := fun hm => by
    obtain ⟨_, o2, e2, nf⟩ := c.fl.2.2.1.mem hm
    have z := e2.symm.trans he
    cases z
    exact nf _ hd
  refine ⟨oe, hz, ⟨vs, hd⟩, he, fun g st up eg => Inv.suite (c.land g st up) eg hd c.no (fun z => out ?_) fun hm => out ?_⟩
  · rw [z]
    exact List.mem_filterMap.mpr ⟨X.env, List.mem_cons_self, hf⟩
  · obtain ⟨e, he, q⟩ := List.mem_filterMap.mp hm
    exact List.mem_filterMap.mpr ⟨e, List.mem_cons_of_mem _ he, q⟩
/-- landing once more -/
theorem Caught.again (c : Caught X pins σ H B a cls d s) {g : Heap} (fl : HandSPX.FlyingZ B (X.env :: X.outer) a (Zc cls d) g) (up : s.heap.UpToSlots g) : Caught X pins σ H B a cls d { s with heap := g } :=
  ⟨fl, c.no, fun g2 st up2 => c.land g2 st (up.trans up2), fun W tk w g2 hh up2 => c.out W tk w g2 hh (up.trans up2)⟩
/-- no clause is left: it goes on -/
theorem Caught.leave (hf : X.env.frame = some X.env.locals) (c : Caught X pins σ H B a cls d s) {W : WX} (tk : Takes X W) (w : W cls d σ H) {D : Ends} : wpAny (model X.prog X.w) X.A (handleBy (.ref a) X.env []) (SP X pins D) X.xe s := by
  refine wpAny_handleBy_nil ?_
  obtain ⟨_, _, _, oe, vs, T, oT, ts, he, hz, hd, h1, hr⟩ := id c.fl
  unfold PySem.passOn
  refine wpAny_bind (wpAny_field he hd h1 ?_)
  rw [if_neg (by simp : ¬ (Value.ref T == Value.none) = true)]
  have go : wpAny (model X.prog X.w) X.A (setFlight (.ref a) X.env.frame) (fun _ s4 => wpAny (model X.prog X.w) X.A (throw (.ref a) : Sem Flow) (SP X pins D) X.xe s4) X.xe s := by
    rw [hf]
    exact HandSPX.setFlight_upZ c.fl fun g hh up => wpAny_throw (c.out W tk w g hh up)
  first
    | exact wpAny_bind (wpAny_pure (wpAny_bind go))
    | exact wpAny_bind go
/-- one clause «except x as n» -/
theorem Caught.clause (ok : X.Ok) (hf : X.env.frame = some X.env.locals) (c : Caught X pins σ H B a cls d s) {x n : Str} {cv : Value} {i : Nat} {suite : List Stmt} {b₀ : Stmt} {np pos' : Pos} {rest : List ExceptHandler} {ts : Addr → Value → Option Addr → TS} {D : Ends} {b : Bool}
    (hN : X.N.Nodup) (hi : X.N[i]? = some n) (hln : X.env.kindOf n = some .local) (hc : Names X x cv) (hb : PySem.W.exmOne X.K cls cv = some b)
    (hsu : ∀ (oe : Obj) (pn : List (Addr × Obj)), Zc cls d oe → (∃ vs, oe.data = .fields vs) → PSs (X.suite a ((a, oe) :: pn)) (b₀ :: suite) (ts a cls d))
    (yes : b = true → ts a cls d { nx := fun σ' H' => D.nx (σ'.set i none) H', rt := D.rt, bk := fun σ' H' => D.bk (σ'.set i none) H', ct := fun σ' H' => D.ct (σ'.set i none) H' } (σ.set i (some (.ref a))) H)
    (no : b = false → wpAny (model X.prog X.w) X.A (handleBy (.ref a) X.env rest) (SP X pins D) X.xe s) :
    wpAny (model X.prog X.w) X.A (handleBy (.ref a) X.env (.ExceptHandler (some (.Name x np)) (some n) (b₀ :: suite) pos' :: rest)) (SP X pins D) X.xe s := by
  obtain ⟨oe, hz, hd, he, mk⟩ := c.at hf
  have S := mk s.heap c.fl.1 (Heap.UpToSlots.refl _) he
  refine wpAny_handleBy_cons (codeAny_handlers_test ?_) (by intro q; cases q)
  have ty : PySem.W.Looks (model X.prog X.w) s.heap (typeOf (.ref a)) cls := fun A Q E s1 k q => wpAny_typeOf_ref (k _ _ he) (by rw [hz.1]; exact q)
  have mt := (PySem.W.exm_one (M := model X.prog X.w) c.inv.kIn ty hb)
  have nm : ∀ {Q : Value → Shared → Prop} {E : Value → Shared → Prop}, Q cv s → wpAny (model X.prog X.w) (X.A.mark (some (.ref a))) (eval (.Name x np) X.env) Q E s := fun {Q E} q => by
    obtain ⟨hg, hdb, hm | ⟨hm, hv, hnn⟩⟩ := hc
    · exact ld_glob (X := X.suite a ((a, oe) :: (X.pn ++ pins))) S hg hm q hdb
    · exact ld_blt (X := X.suite a ((a, oe) :: (X.pn ++ pins))) S hg hm hv q hnn hdb
  refine nm (mt.here ?_)
  cases b with
  | false => exact no rfl
  | true =>
    refine codeAny_handlers_suite_as (HandSPX.lands_againZ c.fl fun g fl up => ?_)
    obtain ⟨oe2, hz2, hd2, he2, mk2⟩ := (c.again fl up).at hf
    have S2 := mk2 g fl.1 (Heap.UpToSlots.refl _) he2
    refine store_ok (X := X.suite a ((a, oe2) :: (X.pn ++ pins))) (v := .ref a) S2 hN hi (.inl hln) rfl (fun s5 S5 => ?_) (.inr hln)
    refine wpAny_mono ((hsu oe2 (X.pn ++ pins) hz2 hd2).run [] s5 _ H _ S5 (yes rfl)) (fun f s6 hsp => ?_) (fun _ _ z => z.elim)
    have fin : ∀ {σ6 : L2.St} {H6 : Hp} {Q : Shared → Prop}, Inv (X.suite a ((a, oe2) :: (X.pn ++ pins))) [] σ6 H6 s6 → (∀ s7, Inv X pins (σ6.set i none) H6 s7 → Q s7) →
        wpAny (model X.prog X.w) X.A (do bindName X.env n .none; unbindBehindTheSuite X.env n pos') (fun _ s7 => Q s7) X.xe s6 := fun I6 k => gone_ok (I6.unsuite ok) hN hi hln k
    match f, hsp with
    | .next, ⟨σ6, H6, I6, q⟩ => exact fin I6 fun s7 J => ⟨_, _, J, q⟩
    | .brk, ⟨σ6, H6, I6, q⟩ => exact fin I6 fun s7 J => ⟨_, _, J, q⟩
    | .cont, ⟨σ6, H6, I6, q⟩ => exact fin I6 fun s7 J => ⟨_, _, J, q⟩
    | .ret u, ⟨v, σ6, H6, I6, r, q⟩ => exact fin I6 fun s7 J => ⟨v, _, _, J, r, q⟩
end
/-- what the clauses want of an error, one behind the other -/
def wClauses (K : PySem.W.Frag) (Wout : WX) (D : Ends) : List (Value × Nat × (Addr → Value → Option Addr → TS)) → WX
  | [] => Wout
  | (cv, i, ts) :: r => fun cls d σ H => ∃ b, PySem.W.exmOne K cls cv = some b ∧
    (b = true → ∀ a, H a = none → ts a cls d { nx := fun σ' H' => D.nx (σ'.set i none) H', rt := D.rt, bk := fun σ' H' => D.bk (σ'.set i none) H', ct := fun σ' H' => D.ct (σ'.set i none) H' } (σ.set i (some (.ref a))) H) ∧ (b = false → wClauses K Wout D r cls d σ H)
inductive Clauses (X : Cx) : List ExceptHandler → List (Value × Nat × (Addr → Value → Option Addr → TS)) → Prop
  | nil : Clauses X [] []
  | cons {x n : Str} {cv : Value} {i : Nat} {suite : List Stmt} {b₀ : Stmt} {np pos' : Pos} {rest : List ExceptHandler} {ts : Addr → Value → Option Addr → TS} {l : List (Value × Nat × (Addr → Value → Option Addr → TS))} (hi : X.N[i]? = some n) (hln : X.env.kindOf n = some .local) (hc : Names X x cv)
      (hsu : ∀ (a : Addr) (oe : Obj) (cls : Value) (d : Option Addr) (pn : List (Addr × Obj)), Zc cls d oe → (∃ vs, oe.data = .fields vs) → PSs (X.suite a ((a, oe) :: pn)) (b₀ :: suite) (ts a cls d)) (r : Clauses X rest l) :
      Clauses X (.ExceptHandler (some (.Name x np)) (some n) (b₀ :: suite) pos' :: rest) ((cv, i, ts) :: l)
theorem clauses_run {X : Cx} {pins : List (Addr × Obj)} {σ : L2.St} {H : Hp} {B : Heap} {a : Addr} {cls : Value} {d : Option Addr} {s : Shared} (ok : X.Ok) (hf : X.env.frame = some X.env.locals) (hN : X.N.Nodup) (c : Caught X pins σ H B a cls d s) {Wout : WX} (tk : Takes X Wout) {D : Ends}
    {hds : List ExceptHandler} {l : List (Value × Nat × (Addr → Value → Option Addr → TS))} (hh : Clauses X hds l) (w : wClauses X.K Wout D l cls d σ H) : wpAny (model X.prog X.w) X.A (handleBy (.ref a) X.env hds) (SP X pins D) X.xe s := by
  induction hh with
  | nil => exact c.leave hf tk w
  | cons hi hln hc hsu r ih =>
    obtain ⟨b, hb, yes, no⟩ := w
    exact c.clause ok hf hN hi hln hc hb (fun oe pn hz hd => hsu a oe cls d pn hz hd) (fun e => yes e a c.no) fun e => ih (no e)
/-- try: .. except X as e: .. except Y as e: .. -/
theorem ps_try_clauses {X : Cx} {body : List Stmt} {h₀ : ExceptHandler} {hds : List ExceptHandler} {pos : Pos} {tb : WX → TS} {Wout : WX} {l : List (Value × Nat × (Addr → Value → Option Addr → TS))} (hs : X.stack = X.env :: X.outer) (hf : X.env.frame = some X.env.locals) (hN : X.N.Nodup) (tk : Takes X Wout)
    (hb : ∀ (W : WX) (pn : List (Addr × Obj)) (xe : Value → Shared → Prop), Takes (X.tr pn xe) W → PassesOwn (model X.prog X.w) X.A X.env xe → PSs (X.tr pn xe) body (tb W))
    (hh : Clauses X (h₀ :: hds) l) : PS X (.Try body (h₀ :: hds) [] [] pos) (fun D σ H => tb (wClauses X.K Wout D l) D σ H) := by
  refine ⟨fun pins s σ H D I h => wpAny_Try_except ?_⟩
  have hfr : X.A.frames = some (X.env :: X.outer) := by rw [I.ok.frames, hs]
  let xe : Value → Shared → Prop := fun e s1 => wpAny (model X.prog X.w) X.A (noteFrame e X.env) (fun _ s2 => wpAny (model X.prog X.w) X.A (setFlight e none) (fun _ s3 => wpAny (model X.prog X.w) X.A (handleBy e X.env (h₀ :: hds)) (SP X pins D) X.xe s3) X.xe s2) X.xe s1
  have catches : Takes (X.tr (X.pn ++ pins) xe) (wClauses X.K Wout D l) := fun u s' xx => by
    obtain ⟨a, B, sI, pins', σ', H', cls, d, rfl, J0, nb, up, sky, na, os, ag, w⟩ := xx
    have J : Inv X pins σ' H' sI := J0.ofTry I.ok
    refine Sky.land Zc.steady hfr hf (by rw [← hs]; exact sky) fun g fl up3 => clauses_run (s := { s' with heap := g }) I.ok hf hN (B := B) (cls := cls) (d := d) ⟨fl, na, fun g2 st up4 => J.landed nb st ((up.trans up3).trans up4) os ag, fun W2 tk2 w2 g2 hh2 up4 => tk2 _ _ ⟨a, B, sI, pins, σ', H', cls, d, rfl, J, nb, (up.trans up3).trans up4, .inr (.inr (by rw [hs]; exact hh2)), na, os, ag, w2⟩⟩ tk hh w
  refine wpAny_mono ((hb (wClauses X.K Wout D l) (X.pn ++ pins) xe catches PassesOwn.looking).run [] s σ H D (I.toTry _) h) (fun f s1 hsp => ?_) (fun e s1 he => he)
  match f, hsp with
  | .next, ⟨σ', H', J, q⟩ => exact wpAny_execs_nil ⟨σ', H', J.ofTry I.ok, q⟩
  | .brk, ⟨σ', H', J, q⟩ => exact ⟨σ', H', J.ofTry I.ok, q⟩
  | .cont, ⟨σ', H', J, q⟩ => exact ⟨σ', H', J.ofTry I.ok, q⟩
  | .ret u, ⟨v, σ', H', J, r, q⟩ => exact ⟨v, σ', H', J.ofTry I.ok, r, q⟩
end DL
/-! DL: caught errors as data: what isinstance says of them, their fields, the clauses of a try -/
namespace DL
open PySem PySem.Spec PyProof.Rows L2
/-- a caught error with fields: where it stands, where its dict stands, the fields -/
abbrev excF (a dd : Addr) (xs : List PyData) : PyData := .dict [(.int (a : Nat), .int (dd : Nat)), (.none, .list xs)]
/-- the error under way is p0, of the class c at D, d its dict -/
structure HeldN (K : PySem.W.Frag) (c : Str) (D : Addr) (d : Option Addr) (p0 : Addr × Obj) : Prop where
  ns : PySem.W.nsIn K mainGlobals c = some (some (.ref D))
  hz : Zc (.ref D) d p0.2
  hf : ∃ vs, p0.2.data = .fields vs
def rIsN (K : PySem.W.Frag) (a D : Addr) (d : Option Addr) : List V → Hp → VK → Prop := fun xs H Q => ∃ (c : V) (cv : Value) (b : Bool), xs = [.ref a, c] ∧ (d = none ∨ ∃ dd fs, d = some dd ∧ H dd = some (.xd fs)) ∧ (∀ u, RelV c u → u = cv) ∧ PySem.W.kitOne K (.ref D) cv = some b ∧ Q (.bl b) H
theorem call_isN {X : Cx} {a D : Addr} {d : Option Addr} {oe : Obj} {pn : List (Addr × Obj)} (C : ExcC X.K D) (hz : Zc (.ref D) d oe) (hf : ∃ vs, oe.data = .fields vs) : CallR (X.suite a ((a, oe) :: pn)) (.builtin "isinstance") (rIsN X.K a D d) := by
  intro pins s σ H xs us Q I r h
  obtain ⟨c, cv, b, rfl, hd, hcv, e, q⟩ := h
  cases r with
  | cons rx rr =>
    cases rr with
    | cons rt rr =>
      cases rr
      cases rx
      have ec := hcv _ rt
      subst ec
      obtain ⟨ho, _⟩ := I.pin (a, oe) (List.mem_append_left _ List.mem_cons_self)
      obtain ⟨vs, hv⟩ := hf
      have hcl : (PySem.W.clsIn X.K D).isSome = true := by
        obtain ⟨cd, hc, _⟩ := PySem.W.any_some C.hd
        rw [hc]
        rfl
      have hnc : PySem.W.notCls oe = true := by unfold PySem.W.notCls; rw [hv] <;> rfl
      have hK := fun (od : Option Obj) => PySem.W.kitx_exc (x := a) (ox := oe) (od := od) hcl C.hg C.hk C.hs C.ha C.hn C.ht C.hm
      rcases hd with rfl | ⟨dd, fs, rfl, hd⟩
      · have J : PySem.W.InstAt s.heap a oe D none := ⟨ho, hz.1, hnc, by rw [hz.2]; trivial⟩
        exact PySem.W.kia_one (hK none) I.kIn J e (fun z => nomatch z) fun tk => ⟨.bl b, H, I.kept (t' := tk) fun _ _ z => z, rfl, q⟩
      · have hx : ObjOk X.prog X.w H s.heap dd (.xd fs) := I.hok dd _ hd
        obtain ⟨mA, hns, _⟩ := hx
        obtain ⟨od, hod, _⟩ := lookIn_ns hns
        have J : PySem.W.InstAt s.heap a oe D (some od) := ⟨ho, hz.1, hnc, by rw [hz.2]; exact hod⟩
        exact PySem.W.kia_one (hK (some od)) I.kIn J e (fun z => nomatch z) fun tk => ⟨.bl b, H, I.kept (t' := tk) fun _ _ z => z, rfl, q⟩
/-- x is the error under way at a, with its dict d -/
def exAt (a : Addr) : Option Addr → PyData → Prop
  | none, x => x = excD a
  | some dd, x => ∃ xs, x = excF a dd xs
@[simp] def wIsK (a : Addr) (d : Option Addr) (b : Bool) (w : DE) : DE := fun s Φ => w s fun x s1 => exAt a d x ∧ Φ (.bool b) s1
@[simp] def wFldN (a : Addr) (d : Option Addr) (f : Str) (w : DE) : DE := fun s Φ => w s fun x s1 => ∃ dd xs v, d = some dd ∧ x = excF a dd xs ∧ fldAt f xs = some v ∧ Φ v s1
section
variable {X : Cx} {L FL : List Str} {b : Str → Str → Bool} {c : Str} {D : Addr} {d : Option Addr} {p0 : Addr × Obj} {pn : List (Addr × Obj)} {e : Expr} {p p1 pos : Pos} {w : DE}
theorem exAt_of {K : PySem.W.Frag} {F H : Hp} {a : Addr} {v : V} {x : PyData} (s : Same F H) (h : Dq K F v x) (q : exAt a d x) : v = .ref a ∧ (d = none ∨ ∃ dd fs, d = some dd ∧ H dd = some (.xd fs)) := by
  cases d with
  | none =>
    have q : x = excD a := q
    subst q
    cases h
    exact ⟨rfl, .inl rfl⟩
  | some dd =>
    obtain ⟨xs, rfl⟩ := q
    cases h with
    | ef h1 h2 => exact ⟨rfl, .inr ⟨dd, _, rfl, s _ _ h1⟩⟩
theorem isN_of {X : Cx} {v : V} {cv : Value} {bb : Bool} {a : Addr} (hcv : ∀ u, RelV v u → u = cv) (kb : PySem.W.kitOne X.K (.ref D) cv = some bb) (σ : L2.St) (H : Hp) (Q : VK) (h : tE X.K (wIsK a d bb w) σ H Q) :
    tE X.K w σ H fun y H1 => (tCons (tC v) tNil) σ H1 fun vs H2 => rIsN X.K a D d (y :: vs) H2 Q := by
  obtain ⟨G, P, F, s, Φ, R, h, k⟩ := h
  refine ⟨G, P, F, s, _, R, h, fun y F1 H1 s1 x R1 e1 d1 q => ?_⟩
  obtain ⟨rfl, hd⟩ := exAt_of R1.same d1 q.1
  exact ⟨v, cv, bb, rfl, hd, hcv, kb, k _ F1 H1 s1 _ R1 e1 (.bl _) q.2⟩
/-- isinstance(e, T), e the error under way, T an own class -/
theorem xe_isN {T : Str} (E : Ers X.K X.mg L b FL) (hT : T ∈ L) (hc : c ∈ L) (hn : HeldN X.K c D d p0) (hg : Gl (X.suite p0.1 (p0 :: pn)) "isinstance") (hm : X.mg "isinstance" = none) (hgT : Gl (X.suite p0.1 (p0 :: pn)) T) (h : XE (X.suite p0.1 (p0 :: pn)) e w) (hd : (T == ("__debug__" : Str)) = false := by decide)
    (he : starEach [e, .Name T p1] X.env = (false, eval e X.env) :: starEach [.Name T p1] X.env := by rfl) (he2 : starEach [.Name T p1] X.env = (false, eval (.Name T p1) X.env) :: starEach [] X.env := by rfl) (hpl : (backTo pos (starEach [.Name T p1] X.env)).any (·.1) = false := by rfl) :
    XE (X.suite p0.1 (p0 :: pn)) (.Call (.Name "isinstance" p) [e, .Name T p1] [] pos) (wIsK p0.1 d (b T c) w) := by
  obtain ⟨C, gC, kb⟩ := E.kit T hT
  have hcall := call_isN (X := X) (a := p0.1) (pn := pn) (E.ok.ok c hc D hn.ns) hn.hz hn.hf
  exact pe_imp (pe_callB hcall hg hm (by decide +kernel) (pa_cons h (pa_cons (pe_glob (v := .ref C) hgT gC rfl hd) pa_nil he2) he) (by decide) (by decide) he hpl) fun σ H Q h => isN_of (X := X) (v := .ref C) (cv := .ref C) (fun u z => z) (kb c hc D hn.ns) σ H Q h
/-- isinstance(e, ValueError) -/
theorem xe_isNV (E : Ers X.K X.mg L b FL) (hc : c ∈ L) (hn : HeldN X.K c D d p0) (hg : Gl (X.suite p0.1 (p0 :: pn)) "isinstance") (hm : X.mg "isinstance" = none) (hgT : Gl (X.suite p0.1 (p0 :: pn)) "ValueError") (h : XE (X.suite p0.1 (p0 :: pn)) e w)
    (he : starEach [e, .Name "ValueError" p1] X.env = (false, eval e X.env) :: starEach [.Name "ValueError" p1] X.env := by rfl) (he2 : starEach [.Name "ValueError" p1] X.env = (false, eval (.Name "ValueError" p1) X.env) :: starEach [] X.env := by rfl) (hpl : (backTo pos (starEach [.Name "ValueError" p1] X.env)).any (·.1) = false := by rfl) :
    XE (X.suite p0.1 (p0 :: pn)) (.Call (.Name "isinstance" p) [e, .Name "ValueError" p1] [] pos) (wIsK p0.1 d true w) := by
  have hcall := call_isN (X := X) (a := p0.1) (pn := pn) (E.ok.ok c hc D hn.ns) hn.hz hn.hf
  exact pe_imp (pe_callB hcall hg hm (by decide +kernel) (pa_cons h (pa_cons (pe_bltn (v := .ty "ValueError") hgT E.mV PyProof.Rows.Boot.«ValueError» rfl (by decide) (by decide)) pa_nil he2) he) (by decide) (by decide) he hpl) fun σ H Q h => isN_of (X := X) (v := .ty "ValueError") (cv := .type "ValueError") (fun u z => z) (E.kitV c hc D hn.ns) σ H Q h
/-- e.f, e the error under way -/
theorem xe_fldN {f : Str} (E : Ers X.K X.mg L b FL) (hf : f ∈ FL) (hc : c ∈ L) (hn : HeldN X.K c D d p0) (h : XE (X.suite p0.1 (p0 :: pn)) e w) (hb : attributeBase e f X.env (eval e X.env) = eval e X.env := by rfl) : XE (X.suite p0.1 (p0 :: pn)) (.Attribute e f pos) (wFldN p0.1 d f w) :=
  pe_imp (pe_xf (X := X) (ers_xf (E.ok.ok c hc D hn.ns)) (E.fld f hf c hc D hn.ns) hn.hz hn.hf h hb) fun σ H Q h => by
    obtain ⟨G, P, F, s, Φ, R, h, k⟩ := h
    refine ⟨G, P, F, s, _, R, h, fun y F1 H1 s1 x R1 e1 d1 q => ?_⟩
    obtain ⟨dd, xs, u, rfl, rfl, ed, q⟩ := q
    cases d1 with
    | ef h1 h2 =>
      obtain ⟨v, ev, dv⟩ := fld_get (K := X.K) (F := F1) h2 ed
      exact ⟨rfl, rfl, dd, _, v, rfl, R1.same _ _ h1, ev, k _ F1 H1 s1 _ R1 e1 dv q⟩
end
/-! the clauses of a try -/
abbrev ClsD := List (Nat × Str × (Addr → Str → Option Addr → DS))
/-- behind a clause its name is gone -/
def enAs (i : Nat) (Φ : EN) : EN := { nx := fun s2 => Φ.nx (s2.put i .un), rt := Φ.rt, bk := fun s2 => Φ.bk (s2.put i .un), ct := fun s2 => Φ.ct (s2.put i .un), rl := Φ.rl }
def pickC (b : Str → Str → Bool) (c : Str) (xs : List PyData) (s : S) (Φ : EN) : ClsD → Prop
  | [] => Φ.ex c xs s
  | (i, x, ws) :: r => if b x c = true then (xs = [] → ∀ a, ws a c none (enAs i Φ) (s.put i (.d (excD a)))) ∧ (xs ≠ [] → ∀ a dd, ws a c (some dd) (enAs i Φ) (s.put i (.d (excF a dd xs)))) else pickC b c xs s Φ r
@[simp] def wTryN (L : List Str) (b : Str → Str → Bool) (cl : ClsD) (wb : DS) : DS := fun Φ s => wb { nx := Φ.nx, rt := Φ.rt, bk := Φ.bk, ct := Φ.ct, rl := Φ.rl, ex := fun c xs s' => c ∈ L ∧ pickC b c xs s' Φ cl } s
inductive XCl (X : Cx) (L : List Str) : List ExceptHandler → ClsD → Prop
  | nil : XCl X L [] []
  | cons {x n : Str} {i : Nat} {suite : List Stmt} {b₀ : Stmt} {np pos' : Pos} {rest : List ExceptHandler} {ws : Addr → Str → Option Addr → DS} {l : ClsD} (hi : X.N[i]? = some n) (hln : X.env.kindOf n = some .local) (hx : x ∈ L) (hg : Gl X x) (hdb : (x == ("__debug__" : Str)) = false)
      (hsu : ∀ (p0 : Addr × Obj) (c : Str) (D : Addr) (d : Option Addr) (pn : List (Addr × Obj)), c ∈ L → HeldN X.K c D d p0 → XSs (X.suite p0.1 (p0 :: pn)) (b₀ :: suite) (ws p0.1 c d)) (r : XCl X L rest l) :
      XCl X L (.ExceptHandler (some (.Name x np)) (some n) (b₀ :: suite) pos' :: rest) ((i, x, ws) :: l)
theorem xcl_run {X : Cx} {L FL : List Str} {b : Str → Str → Bool} (E : Ers X.K X.mg L b FL) {hds : List ExceptHandler} {cl : ClsD} (hh : XCl X L hds cl) :
    ∃ l, Clauses X hds l ∧ ∀ {D' : Ends} {Φ : EN} {G : Hp} {P : Option Addr} {F H : Hp} {σ : L2.St} {s : S} {c : Str} {xs : List PyData} {C : Addr} {d : Option Addr}, c ∈ L → X.mg c = some (.ref C) → Rep X.K G P F H σ s → Beh X.K G P F Φ D' (wX X) → pickC b c xs s Φ cl →
      ((xs = [] ∧ d = none) ∨ ∃ dd fs, d = some dd ∧ xs ≠ [] ∧ F dd = some (.xd fs) ∧ FldF fs xs) → wClauses X.K (wishOf X) D' l (.ref C) d σ H := by
  induction hh with
  | nil =>
    refine ⟨[], .nil, fun {D' Φ G P F H σ s c xs C d} hc gC R bh q hx => ?_⟩
    have z := bh.ex c xs σ F H s R (Same.refl F) q C gC
    rcases hx with ⟨e, rfl⟩ | ⟨dd, fs, rfl, ne, h1, h2⟩
    · exact z.1 e
    · exact z.2 ne dd fs h1 h2
  | @cons x n i suite b₀ np pos' rest ws l hi hln hx hg hdb hsu r ih =>
    obtain ⟨l2, hc2, go⟩ := ih
    obtain ⟨Cx, gx, _⟩ := E.kit x hx
    refine ⟨(.ref Cx, i, fun a cls d D' σ H => ∃ c D, c ∈ L ∧ PySem.W.nsIn X.K mainGlobals c = some (some (.ref D)) ∧ cls = .ref D ∧ tS X.K noX (ws a c d) D' σ H) :: l2, .cons hi hln ⟨hg, hdb, .inl gx⟩ (fun a oe cls d pn hz hf => ⟨fun pins s σ H D' I h => ?_⟩) hc2, fun {D' Φ G P F H σ s c xs C d} hc gC R bh q hxs => ?_⟩
    · obtain ⟨c, D, hcL, hns, rfl, h⟩ := h
      exact (hsu (a, oe) c D d pn hcL ⟨hns, hz, hf⟩).run pins s σ H D' I (tS_wish (fun c xs F σ H q => q.elim) h)
    · refine ⟨b x c, E.exm x hx c hc Cx C gx gC, fun e2 a na => ⟨c, C, hc, E.ns c hc C gC, rfl, ?_⟩, fun e2 => ?_⟩
      · unfold pickC at q
        rw [if_pos e2] at q
        have bb : ∀ (F' : Hp), F' = F → Beh X.K G P F' (enAs i Φ) { nx := fun σ' H' => D'.nx (σ'.set i none) H', rt := D'.rt, bk := fun σ' H' => D'.bk (σ'.set i none) H', ct := fun σ' H' => D'.ct (σ'.set i none) H' } noX := fun F' eF => by
          subst eF
          exact ⟨fun σ2 F2 H2 s2 R2 e3 q2 => bh.nx _ F2 H2 _ R2.dropU e3 q2, fun v σ2 F2 H2 s2 x R2 e3 => bh.rt v σ2 F2 H2 s2 x R2 e3, fun σ2 F2 H2 s2 R2 e3 q2 => bh.bk _ F2 H2 _ R2.dropU e3 q2, fun σ2 F2 H2 s2 R2 e3 q2 => bh.ct _ F2 H2 _ R2.dropU e3 q2,
            fun p vs σ2 F2 H2 s2 xs R2 e3 => bh.rl p vs σ2 F2 H2 s2 xs R2 e3, fun _ _ _ _ _ _ _ _ z => z.elim⟩
        rcases hxs with ⟨e, rfl⟩ | ⟨dd, fs, rfl, ne, h1, h2⟩
        · exact ⟨G, P, F, _, _, R.setD (.er a), q.1 e a, bb F rfl⟩
        · exact ⟨G, P, F, _, _, R.setD (.ef h1 h2), q.2 ne a dd, bb F rfl⟩
      · unfold pickC at q
        rw [if_neg (by rw [e2]; decide)] at q
        exact go hc gC R bh q hxs
theorem xs_try_n {X : Cx} {L FL : List Str} {b : Str → Str → Bool} {body : List Stmt} {h₀ : ExceptHandler} {hds : List ExceptHandler} {pos : Pos} {wb : DS} {cl : ClsD} (hs : X.stack = X.env :: X.outer) (hf : X.env.frame = some X.env.locals) (hN : X.N.Nodup) (E : Ers X.K X.mg L b FL)
    (hb : ∀ (pn : List (Addr × Obj)) (xe : Value → Shared → Prop), PassesOwn (model X.prog X.w) X.A X.env xe → XSs (X.tr pn xe) body wb) (hh : XCl X L (h₀ :: hds) cl) : XS X (.Try body (h₀ :: hds) [] [] pos) (wTryN L b cl wb) := by
  obtain ⟨l, hcl, go⟩ := xcl_run E hh
  refine ps_imp (ps_try_clauses (tb := fun W => tS X.K (wW X.K X.mg W) wb) hs hf hN (takes_wish X) (fun W pn xe tk pa => pss_imp (hb pn xe pa) fun D σ H t => tS_wish (fun c xs F σ H q => wW_X tk q) t) hcl) fun D' σ H h => ?_
  obtain ⟨G, P, F, s, Φ, R, h, bh⟩ := h
  refine ⟨G, P, F, s, _, R, h, ⟨bh.nx, bh.rt, bh.bk, bh.ct, bh.rl, fun c xs σ' F' H' s' R' e q => ?_⟩⟩
  refine fun C gC => ⟨fun e2 => go q.1 gC R' (bh.up e) q.2 (.inl ⟨e2, rfl⟩), fun ne d fs h1 h2 => go q.1 gC R' (bh.up e) q.2 (.inr ⟨d, fs, rfl, ne, h1, h2⟩)⟩
end DL
/-! DL: f(..) of a def that may raise, as a statement -/
namespace DL
open PySem PySem.Spec PyProof.Rows L2
section
variable {X : Cx} {k kX : Nat} {sp : DSpX} {x : Str} {ps : List Str} {p pos pos2 : Pos} {e : Expr} {es : List Expr} {wa : DA}
@[simp] def wExpX (sp : DSpX) (wa : DA) : DS := fun Φ s => wa s fun ds s1 => sp ds (fun _ => Φ.nx s1) fun c xs => Φ.ex c xs s1
theorem c_expX (C : CaX X.prog X.w X.K X.mg X.base k x ps sp) (hgd : X.A.guards = some []) (hr : Room kX X.A) (hk : k ≤ kX) (hg : Gl X x) (ha : XA X (e :: es) wa)
    (hdb : (x == ("__debug__" : Str)) = false := by decide) (he : starEach (e :: es) X.env = (false, eval e X.env) :: starEach es X.env := by rfl) (hpl : (backTo pos (starEach es X.env)).any (·.1) = false := by rfl)
    (hs : swapsWith (.Call (.Name x p) (e :: es) [] pos) none pos2.line X.env = pure false := by rfl) :
    XS X (.Expr (.Call (.Name x p) (e :: es) [] pos) pos2) (wExpX sp wa) := by
  obtain ⟨f, fd, F, gm, kp, b⟩ := C.ex
  refine ps_imp (ps_expr (pe_callX F hgd (hr.mono hk) hg gm kp b (takes_wish X) ha hdb he hpl) hs) fun D σ H h => ?_
  obtain ⟨G, P, F, s, Φ, R, h, b⟩ := h
  exact callX_of (Φr := fun _ s1 => Φ.nx s1) R h (fun v F' H' s' x R' e d q => b.nx σ F' H' s' R' e q) fun c xs F' H' s' R' e q => b.ex c xs σ F' H' s' R' e q
end
end DL
/-! DL: // of great numbers; how fast the greatest common divisor is found; fractions in lowest terms -/
namespace DL
open PySem PySem.Spec PyProof.Rows L2
@[simp] def wDivW : W2 := wII CDivW fun i j => .int (i / j)
theorem o_divW {K : PySem.W.Frag} : Op2 K (rI CDivW fun i j => .int (i / j)) wDivW := op2_I fun _ _ _ => .int _
theorem mod_half {a b : Nat} (h0 : 0 < b) (h : b ≤ a) : 2 * (a % b) ≤ a := by
  have h1 := Nat.div_add_mod a b
  have h2 := Nat.mod_lt a h0
  have h3 : 1 ≤ a / b := (Nat.one_le_div_iff h0).mpr h
  have h4 : b * 1 ≤ b * (a / b) := Nat.mul_le_mul (Nat.le_refl b) h3
  omega
/-- Euclid's pairs: a turn takes (a, b) to (b, a % b); behind i + 1 turns their product is small -/
structure Eu (g m i a b : Nat) : Prop where
  gcd : Nat.gcd a b = g
  le : b ≤ a
  small : a * b * 2 ^ i ≤ m
theorem Eu.first {a b : Nat} (hb : 0 < b) : Eu (Nat.gcd a b) (b * b) 0 b (a % b) where
  gcd := by rw [Nat.gcd_comm a b, Nat.gcd_rec b a, Nat.gcd_comm]
  le := Nat.le_of_lt (Nat.mod_lt a hb)
  small := by
    rw [Nat.pow_zero, Nat.mul_one]
    exact Nat.mul_le_mul (Nat.le_refl b) (Nat.le_of_lt (Nat.mod_lt a hb))
theorem Eu.next {g m i a b : Nat} (hb : 0 < b) (h : Eu g m i a b) : Eu g m (i + 1) b (a % b) where
  gcd := by rw [← h.gcd, Nat.gcd_comm a b, Nat.gcd_rec b a, Nat.gcd_comm]
  le := Nat.le_of_lt (Nat.mod_lt a hb)
  small := by
    have h1 := mod_half hb h.le
    have h2 : b * (a % b) * 2 ^ (i + 1) = (b * (2 * (a % b))) * 2 ^ i := by
      rw [Nat.pow_succ, ← Nat.mul_assoc, Nat.mul_right_comm (b * (a % b)) (2 ^ i) 2, Nat.mul_assoc b (a % b) 2, Nat.mul_comm (a % b) 2]
    rw [h2]
    refine Nat.le_trans (Nat.mul_le_mul (Nat.mul_le_mul (Nat.le_refl b) h1) (Nat.le_refl _)) ?_
    rw [Nat.mul_comm b a]
    exact h.small
theorem Eu.done {g m i a b : Nat} (h : Eu g m i a b) (hm : m < 2 ^ i) : b = 0 := by
  have h0 : a * b = 0 := by
    rcases Nat.eq_zero_or_pos (a * b) with z | z
    · exact z
    · have h1 : 1 * 2 ^ i ≤ a * b * 2 ^ i := Nat.mul_le_mul z (Nat.le_refl _)
      have := h.small
      omega
  rcases Nat.mul_eq_zero.mp h0 with z | z
  · have := h.le
    omega
  · exact z
/-- the fraction a / b in lowest terms -/
def frD (a b : Nat) : PyData := .tuple [.int ((a / Nat.gcd a b : Nat) : Int), .int ((b / Nat.gcd a b : Nat) : Int)]
theorem fr_low {a b : Nat} (hb : 0 < b) : Nat.gcd (a / Nat.gcd a b) (b / Nat.gcd a b) = 1 := by
  have g := Nat.gcd_pos_of_pos_right a hb
  have h : Nat.gcd a b * Nat.gcd (a / Nat.gcd a b) (b / Nat.gcd a b) = Nat.gcd a b * 1 := by
    rw [← Nat.gcd_mul_left, Nat.mul_div_cancel' (Nat.gcd_dvd_left a b), Nat.mul_div_cancel' (Nat.gcd_dvd_right a b), Nat.mul_one]
  exact Nat.eq_of_mul_eq_mul_left g h
theorem fr_eq {a b : Nat} : a / Nat.gcd a b * b = a * (b / Nat.gcd a b) := by
  rw [← Nat.mul_div_assoc a (Nat.gcd_dvd_right a b), Nat.mul_comm (a / Nat.gcd a b) b, ← Nat.mul_div_assoc b (Nat.gcd_dvd_left a b), Nat.mul_comm a b]
theorem fr_pos {a b : Nat} (hb : 0 < b) : 0 < b / Nat.gcd a b := Nat.div_pos (Nat.le_of_dvd hb (Nat.gcd_dvd_right a b)) (Nat.gcd_pos_of_pos_right a hb)
/-- equal fractions have the same lowest terms -/
theorem fr_same {a b c d : Nat} (hb : 0 < b) (hd : 0 < d) (h : a * d = c * b) : frD a b = frD c d := by
  have e1 : a / Nat.gcd a b = c / Nat.gcd c d ∧ b / Nat.gcd a b = d / Nat.gcd c d := by
    have g1 := Nat.gcd_pos_of_pos_right a hb
    have g2 := Nat.gcd_pos_of_pos_right c hd
    have k1 := fr_low (a := a) hb
    have k2 := fr_low (a := c) hd
    have f1 := fr_pos (a := a) hb
    have f2 := fr_pos (a := c) hd
    have ea := Nat.div_mul_cancel (Nat.gcd_dvd_left a b)
    have eb := Nat.div_mul_cancel (Nat.gcd_dvd_right a b)
    have ec := Nat.div_mul_cancel (Nat.gcd_dvd_left c d)
    have ed := Nat.div_mul_cancel (Nat.gcd_dvd_right c d)
    generalize a / Nat.gcd a b = p at *
    generalize b / Nat.gcd a b = q at *
    generalize c / Nat.gcd c d = r at *
    generalize d / Nat.gcd c d = t at *
    generalize Nat.gcd a b = g at *
    generalize Nat.gcd c d = g' at *
    subst ea; subst eb; subst ec; subst ed
    have h2 : p * t = r * q := by
      have h3 : p * t * (g * g') = r * q * (g * g') := by
        simp only [Nat.mul_comm, Nat.mul_left_comm, Nat.mul_assoc] at h ⊢
        exact h
      exact Nat.eq_of_mul_eq_mul_right (Nat.mul_pos g1 g2) h3
    have d1 : q ∣ t := (Nat.Coprime.dvd_of_dvd_mul_left (Nat.Coprime.symm k1) (by rw [h2]; exact Nat.dvd_mul_left q r))
    have d2 : t ∣ q := (Nat.Coprime.dvd_of_dvd_mul_left (Nat.Coprime.symm k2) (by rw [← h2]; exact Nat.dvd_mul_left t p))
    have e := Nat.dvd_antisymm d1 d2
    subst e
    exact ⟨Nat.eq_of_mul_eq_mul_right f1 h2, rfl⟩
  unfold frD
  rw [e1.1, e1.2]
end DL
/-! DL: a, b = e, an own list -/
namespace DL
open PySem PySem.Spec PyProof.Rows L2
@[simp] def wParO (i j : Nat) (w1 : DE) (w2 : DA) : DS := fun Φ s => w1 s fun x s1 => w2 s1 fun ys s2 => Φ.nx ((s2.put j (.o ys)).put i (.d x))
theorem xs_parO {X : Cx} {i j : Nat} {x y : Str} {a b : Expr} {w1 : DE} {w2 : DA} {px py pt pos : Pos} {kt k2 : Nat} {pt2 : Pos} (hc : X.calm = true) (hN : X.N.Nodup) (hi : X.N[i]? = some x) (hj : X.N[j]? = some y) (hij : i ≠ j)
    (hx : X.env.scope.names.lookup x = some .local) (hy : X.env.scope.names.lookup y = some .local) (ha : XE X a w1) (hb : XL X b w2)
    (hw : swappedStores [.Tuple [.Name x px, .Name y py] kt pt] (.Tuple [a, b] k2 pt2) X.env = pure (some [x, y]))
    (he : starEach [a, b] X.env = (false, eval a X.env) :: starEach [b] X.env := by rfl) (he2 : starEach [b] X.env = (false, eval b X.env) :: starEach [] X.env := by rfl)
    (hsole : swapsWithSole [.Tuple [.Name x px, .Name y py] kt pt] (.Tuple [a, b] k2 pt2) pos.line X.env = pure false := by rfl) : XS X (.Assign [.Tuple [.Name x px, .Name y py] kt pt] (.Tuple [a, b] k2 pt2) pos) (wParO i j w1 w2) :=
  ps_imp (ps_par hc hN hi hj hij hx hy (pa_cons ha (pa_cons hb pa_nil he2) he) hw hsole) fun D σ H h => by
    obtain ⟨G, P, F, s, Φ, R, h, b⟩ := h
    refine ⟨G, P, F, s, _, R, h, fun v F1 H1 s1 x R1 e1 d1 q => ⟨G, P, F1, s1, _, R1, q, fun p vs F2 H2 s2 ys R2 e2 n hp d2 q2 => ⟨v, .ref p, rfl, ?_⟩⟩⟩
    rw [List.set_comm _ _ hij]
    exact b.nx _ F2 H2 _ ((R2.setO n hp d2).setD (d1.up e2)) (e1.trans e2) q2
end DL
/-! DL: all, any of a generator expression whose element may call own defs -/
namespace DL
open PySem PySem.Spec PyProof.Rows L2 GenW
/-- a generator expression's frame, within the def X -/
def gnx (X : Cx) (sc : Scope) (N : List Str) (cl : List (Str × Addr)) (C : Addr) (cd : Value) (A : Around) (fp : List Addr) (s0 : Shared) (H0 : Hp) : Cx :=
  { prog := X.prog, w := X.w, K := X.K, mg := X.mg, base := X.base, A := A.deeper (genEnv sc cl C cd builtinsNs X.env), N := N, s_0 := s0, H_0 := H0, env := genEnv sc cl C cd builtinsNs X.env, outer := X.stack, stack := genEnv sc cl C cd builtinsNs X.env :: X.stack, ex := fp, fn := fun _ => false, calm := true, pn := [], xe := fun _ _ => False }
theorem over_gen {A : Around} {elt iter : Expr} {x : Str} {px gpos : Pos} {sc : Scope} {it acc : Value} {env : Env} : A.over (.compLoop (.GeneratorExp elt [⟨.Name x px, iter, [], 0⟩] sc gpos) 0 it acc env) [] = A.deeper env := by
  first
    | rfl
    | (obtain ⟨hd, d, fr, gs, u⟩ := A; simp [Around.over, Around.deeper, marksOver, frameCount, unitsOf, envsOf, guardsOf, pushEnvs, pushGuards, Code.envs, Code.env?, Code.isFrame, Code.guards, Code.isGuard, Code.weight, Code.frames, Code.isCreation, Code.isCaller, Code.cUnits])
/-- the generator expression's scope: its one name x, the walked thing, captured names at the slots Fr of the def -/
structure GenN (X : Cx) (sc : Scope) (N : List Str) (x : Str) (Fr : List Nat) : Prop where
  kind : sc.kind = .function
  co : sc.isCoroutine = false
  cell : ∀ y ∈ sc.names, y.2 ≠ .cell
  dot : sc.names.lookup (".0" : Str) = some NameKind.local
  loc : sc.names.lookup x = some .local
  free : ∀ y ∈ sc.names, y.2 = .free → X.env.scope.names.lookup y.1 = some .cell ∨ X.env.scope.names.lookup y.1 = some .free
  nd : N.Nodup
  at1 : N[1]? = some x
  frs : ∀ (i : Nat) (y : Str), N[i + 2]? = some y → ∃ j, Fr[i]? = some j ∧ X.N[j]? = some y ∧ sc.names.lookup y = some .free
  len : N.length = Fr.length + 2
/-- its slots -/
def gσ (σ : L2.St) (Fr : List Nat) : L2.St := none :: none :: Fr.map fun j => σ.getD j none

section
variable {X : Cx} {sc : Scope} {N : List Str} {x : Str} {Fr : List Nat} {cl : List (Str × Addr)} {C a it : Addr} {cd : Value} {A : Around} {fp : List Addr} {s0 : Shared} {H0 : Hp} {pins : List (Addr × Obj)} {σ0 : L2.St} {px gpos : Pos} {elt iter : Expr}
  {tn : Nat → Heap → Prop} {J : It} {n g : Nat} {v : Bool} {Lp : Nat → Hp → Prop} {Qb : Bool → Hp → Prop} {te : TE}
/-- the end of the generator's run; what is handed out -/
def GenR (Y : Cx) (pins : List (Addr × Obj)) (D : Hp → Prop) : GenEnd := fun n s₀ r s1 => r = .ok .next ∧ ∃ σ' H', Inv Y pins σ' H' s1 ∧ D H'
def GenP (Y : Cx) (pins : List (Addr × Obj)) (σ0 : L2.St) (fp : List Addr) (tn : Nat → Heap → Prop) (n : Nat) (v : Bool) (Lp : Nat → Hp → Prop) (Qb : Bool → Hp → Prop) : Protocol := fun m s₀ u s1 kap =>
  ∃ (i : Nat) (b : Bool) (σ' : L2.St) (H' : Hp), m + (i + 1) = n ∧ u = .bool b ∧ Inv Y pins σ' H' s1 ∧ (∀ y, σ'.set 1 (some y) = σ0.set 1 (some y)) ∧ (∀ b ∈ fp, H' b = none) ∧ tn (i + 1) s1.heap ∧ (b = v → Lp (i + 1) H') ∧ (b ≠ v → Qb b H') ∧
    ∀ s'', Inv Y pins σ' H' s'' → tn (i + 1) s''.heap → b = v → kap (.send .none) s''
/-- what is wanted of the turns -/
structure GenT (Y : Cx) (pins : List (Addr × Obj)) (σ0 : L2.St) (tg : Expr) (fp : List Addr) (it : Addr) (tn : Nat → Heap → Prop) (J : It) (n : Nat) (v : Bool) (Lp : Nat → Hp → Prop) (Qb : Bool → Hp → Prop) (te : TE) : Prop where
  T : Turn Y.prog Y.w Y.K tg J fp it tn
  ok : ∀ (H : Hp), (∀ b ∈ fp, H b = none) → ∀ b ∈ fp, FpOk Y pins H b
  step : ∀ i H, Lp i H → i ≤ n ∧ ((J.stop i H ∧ Qb v H) ∨ (i < n ∧ J.go i H ∧ ∀ y H2, J.yld i H y H2 → te (σ0.set 1 (some y)) H2 fun u H3 => ∃ b, u = .bl b ∧ (b = v → Lp (i + 1) H3) ∧ (b ≠ v → Qb b H3)))
theorem gen_turns (S : GenN X sc N x Fr) (hel : PE (gnx X sc N cl C cd A fp s0 H0) elt te) (G : GenT (gnx X sc N cl C cd A fp s0 H0) pins σ0 (.Name x px) fp it tn J n v Lp Qb te) :
    ∀ (k i : Nat) (s₀ s : Shared) (σ : L2.St) (H : Hp), n - i = k → Inv (gnx X sc N cl C cd A fp s0 H0) pins σ H s → (∀ y, σ.set 1 (some y) = σ0.set 1 (some y)) → (∀ b ∈ fp, H b = none) → tn i s.heap → Lp i H →
      Seg (model X.prog X.w) A (GenR (gnx X sc N cl C cd A fp s0 H0) pins (Qb v)) (GenP (gnx X sc N cl C cd A fp s0 H0) pins σ0 fp tn n v Lp Qb) (n - i) s₀
        (.compLoop (.GeneratorExp elt [⟨.Name x px, iter, [], 0⟩] sc gpos) 0 (.ref it) .none (gnx X sc N cl C cd A fp s0 H0).env)
        ((model X.prog X.w).den (.compLoop (.GeneratorExp elt [⟨.Name x px, iter, [], 0⟩] sc gpos) 0 (.ref it) .none (gnx X sc N cl C cd A fp s0 H0).env)) [] s := by
  intro k
  induction k with
  | zero =>
    intro i s₀ s σ H hk I hσ hf st lp
    obtain ⟨hi, q⟩ := G.step i H lp
    rcases q with ⟨stop, q⟩ | ⟨lt, _⟩
    · show Seg _ A _ _ _ s₀ _ ((compTurn (.GeneratorExp elt [⟨.Name x px, iter, [], 0⟩] sc gpos) 0 (.ref it) .none (gnx X sc N cl C cd A fp s0 H0).env).onRaise (leaving (gnx X sc N cl C cd A fp s0 H0).env)) [] s
      rw [compTurn_gen, Sem.onRaise_eq_wrap]
      refine seg_bind_wrap (wpAny_standAt ?_)
      refine seg_bind_wrap ?_
      rw [over_gen]
      refine thn (G.T.done (gnx X sc N cl C cd A fp s0 H0) rfl rfl rfl rfl i pins s σ H _ I (G.ok H hf) st stop) fun r s1 ⟨hr, I1⟩ => ?_
      subst hr
      exact seg_end (.ok .next) ⟨rfl, σ, H, I1, q⟩
    · omega
  | succ k ih =>
    intro i s₀ s σ H hk I hσ hf st lp
    obtain ⟨hi, q⟩ := G.step i H lp
    show Seg _ A _ _ _ s₀ _ ((compTurn (.GeneratorExp elt [⟨.Name x px, iter, [], 0⟩] sc gpos) 0 (.ref it) .none (gnx X sc N cl C cd A fp s0 H0).env).onRaise (leaving (gnx X sc N cl C cd A fp s0 H0).env)) [] s
    rw [compTurn_gen, Sem.onRaise_eq_wrap]
    refine seg_bind_wrap (wpAny_standAt ?_)
    refine seg_bind_wrap ?_
    rw [over_gen]
    rcases q with ⟨stop, q⟩ | ⟨lt, go, q⟩
    · refine thn (G.T.done (gnx X sc N cl C cd A fp s0 H0) rfl rfl rfl rfl i pins s σ H _ I (G.ok H hf) st stop) fun r s1 ⟨hr, I1⟩ => ?_
      subst hr
      exact seg_end (.ok .next) ⟨rfl, σ, H, I1, q⟩
    · obtain ⟨m, hm⟩ : ∃ m, n - i = m + 1 := ⟨n - i - 1, by omega⟩
      rw [hm]
      refine thn (G.T.item (gnx X sc N cl C cd A fp s0 H0) rfl rfl rfl rfl i pins s σ H _ I (G.ok H hf) st go) fun r s1 ⟨u, hr, h1⟩ => ?_
      subst hr
      refine seg_bind_wrap ?_
      rw [over_gen]
      refine thn h1 fun _ s2 ⟨y, H2, I2, r2, y2, st2, f2⟩ => ?_
      have I2' := I2.pinned (G.ok H2 f2) (G.T.obj _ _ st2)
      refine seg_bind_wrap ?_
      rw [over_gen]
      refine wpAny_assign_Name (store_ok I2' S.nd S.at1 (.inl S.loc) r2 (fun s3 I3 => ?_) (.inr S.loc))
      rw [hσ y] at I3
      refine seg_bind_wrap (wpAny_of_eq (a := true) (by simp only [List.forIn_nil]) ?_)
      simp only [if_true]
      have hy : ∀ v, yieldOut (gnx X sc N cl C cd A fp s0 H0).env v = yieldValue v := fun v => by
        have e : (gnx X sc N cl C cd A fp s0 H0).env.scope.isCoroutine = false := S.co
        simp only [yieldOut, e, Bool.false_eq_true, if_false]
      simp only [hy]
      rw [Sem.bind_eq_wrap', Sem.bind_eq_wrap', Sem.wrap_wrap, Sem.wrap_wrap]
      refine seg_wrap ?_
      rw [over_gen]
      refine wpAny_mono (hel.run _ s3 (σ0.set 1 (some y)) H2 _ I3 (q y H2 y2)) (fun w s4 ⟨d, H4, I4, r4, b, hd, q1, q2⟩ => ?_) fun _ _ z => False.elim z
      subst hd
      obtain rfl : w = Value.bool b := r4
      have stk : tn (i + 1) s4.heap := G.T.keep _ _ _ st2 fun b hb o e => (I4.pin (b, o) (List.mem_append_right _ (List.mem_append_right _ (mem_pinsAt hb e)))).1
      have fk : ∀ b ∈ fp, H4 b = none := fun b hb => by
        obtain ⟨o, e, d⟩ := G.T.obj _ _ st2 b hb
        exact (I4.pin (b, o) (List.mem_append_right _ (List.mem_append_right _ (mem_pinsAt hb e)))).2.1
      have hs2 : ∀ z, (σ0.set 1 (some y)).set 1 (some z) = σ0.set 1 (some z) := fun z => by rw [List.set_set]
      refine seg_at (seg_yield rfl rfl rfl ⟨i, b, _, H4, by omega, rfl, I4.unpinned, hs2, fk, stk, q1, q2, fun s'' I5 st5 hb => ?_⟩)
      have e : m = n - (i + 1) := by omega
      rw [e]
      exact seg_again rfl (ih (i + 1) s'' s'' _ H4 (by omega) I5 hs2 fk st5 (q1 hb))

theorem gen_start (S : GenN X sc N x Fr) (hel : PE (gnx X sc N cl C cd A fp s0 H0) elt te) (G : GenT (gnx X sc N cl C cd A fp s0 H0) pins σ0 (.Name x px) fp it tn J n v Lp Qb te) (s₀ s : Shared) (H : Hp) (I : Inv (gnx X sc N cl C cd A fp s0 H0) pins σ0 H s) (hf : ∀ b ∈ fp, H b = none) (st : tn 0 s.heap) (lp : Lp 0 H) :
      Seg (model X.prog X.w) A (GenR (gnx X sc N cl C cd A fp s0 H0) pins (Qb v)) (GenP (gnx X sc N cl C cd A fp s0 H0) pins σ0 fp tn n v Lp Qb) (n - 0) s₀
        (.compStart (.GeneratorExp elt [⟨.Name x px, iter, [], 0⟩] sc gpos) 0 (.ref it) .none (gnx X sc N cl C cd A fp s0 H0).env)
        ((model X.prog X.w).den (.compStart (.GeneratorExp elt [⟨.Name x px, iter, [], 0⟩] sc gpos) 0 (.ref it) .none (gnx X sc N cl C cd A fp s0 H0).env)) [] s := by
  have loop := gen_turns (px := px) (gpos := gpos) (iter := iter) S hel G (n - 0) 0 s₀ s σ0 H rfl I (fun _ => rfl) hf st lp
  show Seg _ A _ _ _ s₀ _ ((compStart (.GeneratorExp elt [⟨.Name x px, iter, [], 0⟩] sc gpos) 0 (.ref it) .none (gnx X sc N cl C cd A fp s0 H0).env).onRaise (leaving (gnx X sc N cl C cd A fp s0 H0).env)) [] s
  unfold compStart
  rw [Sem.onRaise_eq_wrap]
  show Seg _ A _ _ _ s₀ _ ((ask >>= _).wrap _ _ _ _) [] s
  refine seg_bind_wrap (wpAny_askSetting ?_)
  split
  · exact seg_again rfl loop
  · first
      | exact seg_bind_wrap (wpAny_rule (seg_bind_wrap (wpAny_standAt (seg_bind_wrap (G.T.self _ 0 s _ _ st (seg_again rfl loop))))))
      | (refine seg_bind_wrap (wpAny_rule ?_); show Seg _ A _ _ _ s₀ _ ((standAt iter.pos >>= _).wrap _ _ _ _) [] s; exact seg_bind_wrap (wpAny_standAt (seg_bind_wrap (G.T.self _ 0 s _ _ st (seg_again rfl loop)))))
/-- the table of generators changed -/
theorem inv_gen {Y : Cx} {pins : List (Addr × Obj)} {σ : L2.St} {H : Hp} {s : Shared} (I : Inv Y pins σ H s) {s' : Shared} (hh : s'.heap = s.heap) (ho : s'.os = s.os) (hb : AllBare s'.gens) : Inv Y pins σ H s' :=
  I.call' (ch := []) ho (by rw [hh]; exact Un.refl) (by rw [hh]; exact I.hok) hb fun b z => by cases z
/-- where the consumer stands -/
def GenC (X Y : Cx) (A : Around) (pins : List (Addr × Obj)) (σ0 : L2.St) (fp : List Addr) (tn : Nat → Heap → Prop) (g n : Nat) (v : Bool) (Lp : Nat → Hp → Prop) (Qb : Bool → Hp → Prop) (i : Nat) (s : Shared) : Prop :=
  ∃ (σ : L2.St) (H : Hp) (gs : GenState), Inv Y pins σ H s ∧ tn i s.heap ∧ s.gens[g]? = some gs ∧ ∀ s'', Inv Y pins σ H s'' → tn i s''.heap → gs.Goes (model X.prog X.w) A (GenR Y pins (Qb v)) (GenP Y pins σ0 fp tn n v Lp Qb) (n - i) (.send .none) s''
section
variable {Y : Cx} {B : Around} {R : Result → Shared → Prop}
theorem gen_next {Q : Option Value → Shared → Prop} {E : Value → Shared → Prop} {s : Shared} {i : Nat} (hh : B.handled = none) (hroom : B.depth < recursionLimit) (hg : ∀ {σ : L2.St} {H : Hp} {s : Shared}, Inv Y pins σ H s → s.heap.IsGen a g)
    (h : GenC X Y B.in1 pins σ0 fp tn g n v Lp Qb i s)
    (stop : ∀ s', (∃ σ' H', Inv Y pins σ' H' s' ∧ Qb v H') → Q none s')
    (same : i < n → ∀ s', GenC X Y B.in1 pins σ0 fp tn g n v Lp Qb (i + 1) s' → Q (some (.bool v)) s')
    (other : ∀ b s', b ≠ v → (∃ σ' H', Inv Y pins σ' H' s' ∧ Qb b H') → Q (some (.bool b)) s') : wpAny (model X.prog X.w) B (pyNext (.ref a)) Q E s := by
  obtain ⟨σ, H, gs, I, st, hgs, go⟩ := h
  have hgl : g < s.gens.size := (Array.getElem?_eq_some_iff.mp hgs).1
  have ab : ∀ {z : GenState}, z.bare = true → AllBare (s.setGen g z).gens := fun hz => allBare_setGen I.bare hz
  refine wpAny_gsz (n := g + 1) hgl (wpAny_pyNext_genexpQ (P := fun _ _ s1 => ∃ σ' H', Inv Y pins σ' H' s1 ∧ Qb v H') hh I.nolimit hroom (hg I) hgs (go _ (inv_gen I rfl rfl (ab rfl)) st) (fun w s1 gs' hbare hv => ?_) fun s1 hp h' hk => ?_)
  · intro hsz
    have hsz1 : g < s1.gens.size := by
      have q : (s1.setGen g gs').gens.size = s1.gens.size := setGen_size _ _ _
      have hsz' : g + 1 ≤ (s1.setGen g gs').gens.size := hsz
      omega
    obtain ⟨i', b, σ', H', hi, rfl, I1, hσ, hf, st1, q1, q2, kap⟩ := hv
    have I2 : Inv Y pins σ' H' (s1.setGen g gs') := inv_gen I1 rfl rfl (allBare_setGen I1.bare hbare)
    by_cases hb : b = v
    · subst hb
      cases hn : n - i with
      | zero =>
        rw [hn] at kap
        exact False.elim (kap s1 I1 st1 rfl)
      | succ m =>
        rw [hn] at kap hi
        have e : i' = i := by omega
        subst e
        refine same (by omega) _ ⟨σ', H', gs', I2, st1, setGen_at hsz1, fun s'' I3 st3 => ?_⟩
        have := kap s'' I3 st3 rfl
        have e : n - (i' + 1) = m := by omega
        rw [e]
        exact this
    · exact other b _ hb ⟨σ', H', I2, q2 hb⟩
  · intro _
    obtain ⟨σ', H', I1, q⟩ := hp
    have I2 : Inv Y pins σ' H' (s1.setGen g .finished) := inv_gen I1 rfl rfl (allBare_setGen I1.bare rfl)
    exact stop _ ⟨σ', H', I2.kept (t' := s1.toks) hk, q⟩
theorem all_turns (hh : B.handled = none) (hroom : B.depth < recursionLimit) (hg : ∀ {σ : L2.St} {H : Hp} {s : Shared}, Inv Y pins σ H s → s.heap.IsGen a g)
    (out : ∀ b s', (∃ σ' H', Inv Y pins σ' H' s' ∧ Qb b H') → R (.ok (.ret (.bool b))) s') :
    ∀ (k i : Nat) (s : Shared), n - i = k → GenC X Y B.in1.in1 pins σ0 fp tn g n true Lp Qb i s → codeAny (model X.prog X.w) B (.builtin "all.loop" ⟨[.ref a], []⟩) R s := by
  intro k
  induction k with
  | zero =>
    intro i s hk h
    refine codeAny_builtin F.entry_all_loop ?_
    rw [Around.under_plainId F.plain_all_loop _]
    show wpAny _ B.in1 (pyNext (.ref a) >>= _) _ _ s
    refine wpAny_bind (gen_next (B := B.in1) hh hroom hg h (fun s' q => wpAny_bind (wpAny_rule (wpAny_pure (out true s' q)))) (fun lt => by omega) fun b s' hb q => ?_)
    have e : b = false := by cases b <;> simp_all
    subst e
    refine wpAny_bind (wpAny_holding (wpAny_truthy_bool (wpAny_bind (wpAny_letGo ?_))))
    simp only [Bool.false_eq_true, if_false]
    exact wpAny_bind (wpAny_rule (wpAny_pure (out false s' q)))
  | succ k ih =>
    intro i s hk h
    refine codeAny_builtin F.entry_all_loop ?_
    rw [Around.under_plainId F.plain_all_loop _]
    show wpAny _ B.in1 (pyNext (.ref a) >>= _) _ _ s
    refine wpAny_bind (gen_next (B := B.in1) hh hroom hg h (fun s' q => wpAny_bind (wpAny_rule (wpAny_pure (out true s' q)))) (fun lt s' hc => ?_) fun b s' hb q => ?_)
    · refine wpAny_bind (wpAny_holding (wpAny_truthy_bool (wpAny_bind (wpAny_letGo ?_))))
      simp only [if_true]
      exact wpAny_pure ⟨plainId_quiet F.plain_all_loop _, ih (i + 1) s' (by omega) hc⟩
    · have e : b = false := by cases b <;> simp_all
      subst e
      refine wpAny_bind (wpAny_holding (wpAny_truthy_bool (wpAny_bind (wpAny_letGo ?_))))
      simp only [Bool.false_eq_true, if_false]
      exact wpAny_bind (wpAny_rule (wpAny_pure (out false s' q)))
theorem any_turns (hh : B.handled = none) (hroom : B.depth < recursionLimit) (hg : ∀ {σ : L2.St} {H : Hp} {s : Shared}, Inv Y pins σ H s → s.heap.IsGen a g)
    (out : ∀ b s', (∃ σ' H', Inv Y pins σ' H' s' ∧ Qb b H') → R (.ok (.ret (.bool b))) s') :
    ∀ (k i : Nat) (s : Shared), n - i = k → GenC X Y B.in1.in1 pins σ0 fp tn g n false Lp Qb i s → codeAny (model X.prog X.w) B (.builtin "any.loop" ⟨[.ref a], []⟩) R s := by
  intro k
  induction k with
  | zero =>
    intro i s hk h
    refine codeAny_builtin F.entry_any_loop ?_
    rw [Around.under_plainId F.plain_any_loop _]
    show wpAny _ B.in1 (pyNext (.ref a) >>= _) _ _ s
    refine wpAny_bind (gen_next (B := B.in1) hh hroom hg h (fun s' q => wpAny_bind (wpAny_rule (wpAny_pure (out false s' q)))) (fun lt => by omega) fun b s' hb q => ?_)
    have e : b = true := by cases b <;> simp_all
    subst e
    refine wpAny_bind (wpAny_holding (wpAny_truthy_bool (wpAny_bind (wpAny_letGo ?_))))
    simp only [if_true]
    exact wpAny_bind (wpAny_rule (wpAny_pure (out true s' q)))
  | succ k ih =>
    intro i s hk h
    refine codeAny_builtin F.entry_any_loop ?_
    rw [Around.under_plainId F.plain_any_loop _]
    show wpAny _ B.in1 (pyNext (.ref a) >>= _) _ _ s
    refine wpAny_bind (gen_next (B := B.in1) hh hroom hg h (fun s' q => wpAny_bind (wpAny_rule (wpAny_pure (out false s' q)))) (fun lt s' hc => ?_) fun b s' hb q => ?_)
    · refine wpAny_bind (wpAny_holding (wpAny_truthy_bool (wpAny_bind (wpAny_letGo ?_))))
      simp only [Bool.false_eq_true, if_false]
      exact wpAny_pure ⟨plainId_quiet F.plain_any_loop _, ih (i + 1) s' (by omega) hc⟩
    · have e : b = true := by cases b <;> simp_all
      subst e
      refine wpAny_bind (wpAny_holding (wpAny_truthy_bool (wpAny_bind (wpAny_letGo ?_))))
      simp only [if_true]
      exact wpAny_bind (wpAny_rule (wpAny_pure (out true s' q)))
end
end

theorem clo_at {X : Cx} {sc : Scope} {N : List Str} {x : Str} {Fr : List Nat} (S : GenN X sc N x Fr) (ok : X.Ok) {y : Str} {c : Addr} (h : (cloFrom X.env.cells sc.names []).lookup y = some c) : X.env.cells.lookup y = some c := by
  rcases cloFrom_mem (PySem.mem_of_lookup h) with z | ⟨h1, h2⟩
  · cases z
  · obtain ⟨c', e⟩ := ok.has y (S.free _ h1 rfl).symm.symm
    rw [e] at h2 ⊢
    rw [h2]
    rfl
theorem clo_has {X : Cx} {sc : Scope} {N : List Str} {x : Str} {Fr : List Nat} (S : GenN X sc N x Fr) {y : Str} (h : sc.names.lookup y = some .free) : ∃ c, (cloFrom X.env.cells sc.names []).lookup y = some c :=
  mem_lookup (cloFrom_has (PySem.mem_of_lookup h))
section
variable {X : Cx} {sc : Scope} {N : List Str} {x : Str} {Fr : List Nat} {P : Addr} {cd : Value} {A : Around} {fp : List Addr} {s2 : Shared} {H2 : Hp} {pins : List (Addr × Obj)} {σ : L2.St}
/-- the frame and the generator are laid -/
theorem inv_made (S : GenN X sc N x Fr) (I : Inv X pins σ H2 s2) (hA : A.handled = none) (hAf : A.frames = some X.stack) (hP : H2 P = some (.ext (tabPh P))) (ff : ∀ b ∈ fp, FpOk X pins H2 b) (fo : ∀ b ∈ fp, ∃ o, s2.heap.get? b = some o)
    {C a : Addr} {h5 : Heap} {gs : Array GenState} {tk : Nat} {go : Obj} (hC : s2.heap.objs.size ≤ C) (ha : C < a) (keep : ∀ b o, b ≠ P → s2.heap.get? b = some o → h5.get? b = some o) (hP5 : tabPh P h5) (m0 : ∃ m, h5.Ns C m) (hgo : h5.get? a = some go) (hgd : ∀ v, go.data ≠ .cell v)
    (hb : AllBare gs) : Inv (gnx X sc N (cloFrom X.env.cells sc.names []) C cd A fp s2 H2) [(a, go)] (gσ σ Fr) H2 { s2 with gens := gs, toks := tk, heap := h5 } := by
  have nP : ∀ b, H2 b = none → b ≠ P := fun b e z => by
    rw [z, hP] at e
    cases e
  have lt : ∀ b o, s2.heap.get? b = some o → b < s2.heap.objs.size := fun b o e => Heap.lt_size e
  have hCl : ∀ {y : Str} {c : Addr}, (cloFrom X.env.cells sc.names []).lookup y = some c → X.env.cells.lookup y = some c := fun h => clo_at S I.ok h
  have cellAt : ∀ y c, X.env.cells.lookup y = some c → ∀ v, s2.heap.IsCell c v → h5.IsCell c v := fun y c e v ⟨o, e1, e2⟩ => ⟨o, keep c o (nP c (I.freeC y c e)) e1, e2⟩
  have thP : ∃ o, h5.get? P = some o := let ⟨ps, e, _⟩ := hP5; ⟨_, e⟩
  refine ⟨⟨I.ok.mod, S.kind, I.ok.glob, rfl, hC, fun y z c h1 h2 => I.ok.inj y z c (hCl h1) (hCl h2), fun y hy => ?_, fun y c z => (by cases z), fun _ => hA, ?_, .inr ⟨rfl, rfl⟩, fun b hb => ⟨?_, fun y c e z => ?_⟩, I.bs, Nat.le_trans I.ok.bsz I.sz, fun b o e hb => ?_, fun b hb hm => ?_, I.stack, I.stkFree⟩,
    rfl, hb, ⟨fun b o e n _ _ => keep b o (nP b n) e, fun b o e n _ _ => ⟨o.slots, keep b o (nP b n) e⟩, fun b o _ n _ => n, fun b o e _ => ?_, fun b xs e => e, fun b o u e => e, fun b ps e => ⟨#[], by have e' : H2 b = some (.tbl ps) := e; rw [e']; simp⟩⟩, ?_, fun y c e => ?_, I.hok.fresh hC, fun y c e => I.freeC y c (hCl e), fun p hp => ?_, fun b u e => ?_, ?_⟩
  · rcases hy with hy | hy
    · exact absurd rfl (S.cell _ (PySem.mem_of_lookup hy))
    · exact clo_has S hy
  · exact Around.frames_deeper hAf
  · obtain ⟨o, e⟩ := fo b hb
    exact Nat.ne_of_lt (Nat.lt_of_lt_of_le (lt b o e) hC)
  · exact (ff b hb).2.2.2.2.1 y c (hCl e) z
  · rcases (ff b hb).2.2.2.1 with z | z
    · exact I.ok.noex b o e z
    · have h1 := Heap.lt_size e
      exact absurd (Nat.lt_of_lt_of_le h1 (Nat.le_trans I.ok.bsz z)) (Nat.lt_irrefl _)
  · rcases List.mem_cons.mp (I.stkSub b hm) with z | z
    · exact (ff b hb).2.1 z
    · exact (ff b hb).2.2.1 z
  · by_cases hbP : b = P
    · rw [hbP]
      exact thP
    · exact ⟨o, keep b o hbP e⟩
  · obtain ⟨m, hm⟩ := m0
    refine ⟨m, hm, fun i y v h1 h2 h3 => ?_⟩
    match i, h1, h2 with
    | 0, _, h2 => cases (show (none : Option V) = some v from Option.some.inj h2)
    | 1, _, h2 => cases (show (none : Option V) = some v from Option.some.inj h2)
    | i + 2, h1, h2 =>
      obtain ⟨j, e1, e2, e3⟩ := S.frs i y h1
      have h2' : (Fr.map fun j => σ.getD j none)[i]? = some (some v) := h2
      rw [List.getElem?_map, e1] at h2'
      have h4 : σ.getD j none = some v := Option.some.inj h2'
      have h5' : σ[j]? = some (some v) := by
        rw [List.getD_eq_getElem?_getD] at h4
        cases q : σ[j]? with
        | none =>
          rw [q] at h4
          cases h4
        | some w =>
          rw [q] at h4
          cases h4
          rfl
      have fr := S.free _ (PySem.mem_of_lookup e3) rfl
      obtain ⟨mX, _, lX⟩ := I.loc
      obtain ⟨u, ru, lk⟩ := lX j y v e2 h5' (by
        rcases fr with z | z
        · exact .inr (.inl z)
        · exact .inr (.inr z))
      refine ⟨u, ru, ?_⟩
      rcases lk with ⟨k1, _⟩ | ⟨_, c, hc, hcell⟩
      · have k1' : X.env.scope.names.lookup y = some .local := k1
        rcases fr with z | z
        · rw [k1'] at z
          cases z
        · rw [k1'] at z
          cases z
      · obtain ⟨c', hc'⟩ := clo_has S e3
        have := hCl hc'
        rw [hc] at this
        cases this
        exact .inr ⟨.inr e3, c, hc', cellAt y c hc _ hcell⟩
  · obtain ⟨v, q⟩ := I.cell y c (hCl e)
    exact ⟨v, cellAt y c (hCl e) v q⟩
  · have e : p = (a, go) := by
      rcases List.mem_append.mp hp with z | z
      · cases (show p ∈ ([] : List (Addr × Obj)) from z)
      · exact List.mem_singleton.mp z
    subst e
    have hsz : s2.heap.objs.size ≤ a := Nat.le_trans hC (Nat.le_of_lt ha)
    refine ⟨hgo, I.hok.fresh hsz, Nat.ne_of_gt ha, fun hm => ?_, hgd⟩
    rcases List.mem_cons.mp (I.stkSub a hm) with z | z
    · have := I.lt
      rw [← z] at this
      exact absurd (Nat.lt_of_lt_of_le this hsz) (Nat.lt_irrefl _)
    · exact I.nofs hsz z
  · by_cases hbP : b = P
    · subst hbP
      rw [hP] at e
      cases e
      obtain ⟨_, _, st⟩ := I.hok b _ hP
      exact ⟨hP5, thP, st⟩
    · refine (I.hok b u e).stay (fun c w hc q => keep c w (fun z => ?_) q) (fun _ q => q) fun _ _ q => q
      rcases hc with z2 | z2
      · exact hbP (z2.symm.trans z)
      · rw [z, hP] at z2
        cases z2
  · show (gσ σ Fr).length = N.length
    rw [S.len]
    simp [gσ]
end

/-! the code object's table, as it is told in the written part -/
/-- the table of the code object at c -/
def codeTab (K : PySem.W.Frag) (c : Addr) : Option Addr := match K.lookup c with
  | some ⟨.type "code", _, .fields vs, _⟩ => match (vs[11]? : Option Value), vs.getD 18 Value.none, vs.getD 7 Value.none, vs.getD 9 Value.none, vs.getD 10 Value.none with
    | some (Value.ref p), Value.str _ _, Value.int _ _, Value.bool _, Value.int _ _ => if c = p ∨ (K.lookup p).isSome then none else some p
    | _, _, _, _, _ => none
  | _ => none
theorem codeTab_of {K : PySem.W.Frag} {c P : Addr} (h : codeTab K c = some P) : ∃ (o : Obj) (vs : Array Value) (file : Str) (tf : Tok) (flags : Int) (tg : Tok) (inF : Bool) (text : Int) (tt : Tok) (dd : Option Addr) (sl : Array (Option Value)),
    o = ⟨.type "code", dd, .fields vs, sl⟩ ∧ K.lookup c = some o ∧ vs[11]? = some (.ref P) ∧ vs.getD 18 .none = .str file tf ∧ vs.getD 7 .none = .int flags tg ∧ vs.getD 9 .none = .bool inF ∧ vs.getD 10 .none = .int text tt ∧ c ≠ P ∧ K.lookup P = none := by
  unfold codeTab at h
  split at h
  · rename_i dd vs sl hl
    split at h
    · rename_i p f1 f2 g1 g2 b1 t1 t2 e1 e2 e3 e4 e5
      split at h
      · cases h
      · rename_i hn
        cases h
        refine ⟨_, vs, _, _, _, _, _, _, _, dd, sl, rfl, hl, e1, e2, e3, e4, e5, fun z => hn (.inl z), ?_⟩
        cases q : K.lookup P with
        | none => rfl
        | some o => exact absurd (.inr (by rw [q]; rfl)) hn
    · cases h
  · cases h
theorem codeHd_of {K : PySem.W.Frag} {c P : Addr} {h : Heap} (X : K.In h) (e : codeTab K c = some P) : PySem.W.CodeHd h c P := by
  obtain ⟨o, vs, file, tf, flags, tg, inF, text, tt, dd, sl, rfl, h1, h2, h3, h4, h5, h6, h7, _⟩ := codeTab_of e
  exact ⟨_, vs, file, tf, flags, tg, inF, text, tt, X _ _ h1, rfl, rfl, h2, by rw [Array.getD_eq_getD_getElem?, h2]; rfl, h3, h4, h5, h6, h7⟩
/-- a def of the written part whose code object's table may grow -/
structure CodeD (K : PySem.W.Frag) (x : Str) (st : Stmt) : Prop where
  ex : ∃ (f c P : Addr) (od an : Option Addr) (sl : Array (Option Value)) (oc kV dc pm ct : Value), PySem.W.nsIn K mainGlobals x = some (some (.ref f)) ∧
    K.lookup f = some ⟨oc, od, .func (PySem.W.fnOf x x (defArgs st) (defBody st) (defScope st) .none kV dc pm an (.ref c) ct), sl⟩ ∧ PySem.W.codeIn K (.ref c) x = true ∧ PySem.W.keepIn K (.ref f) = true ∧ codeTab K c = some P
theorem CodeD.mk5 {K : PySem.W.Frag} {x : Str} {st : Stmt} {f c P : Addr} {od an : Option Addr} {sl : Array (Option Value)} {oc kV dc pm ct : Value} (a : PySem.W.nsIn K mainGlobals x = some (some (.ref f)))
    (l : K.lookup f = some ⟨oc, od, .func (PySem.W.fnOf x x (defArgs st) (defBody st) (defScope st) .none kV dc pm an (.ref c) ct), sl⟩) (k : PySem.W.codeIn K (.ref c) x = true) (kp : PySem.W.keepIn K (.ref f) = true) (e : codeTab K c = some P) : CodeD K x st := ⟨_, _, _, _, _, _, _, _, _, _, _, a, l, k, kp, e⟩
theorem CodeD.mk6 {K : PySem.W.Frag} {x : Str} {st : Stmt} {f c : Addr} {od an : Option Addr} {sl : Array (Option Value)} {oc kV dc pm ct : Value} (a : PySem.W.nsIn K mainGlobals x = some (some (.ref f)))
    (l : K.lookup f = some ⟨oc, od, .func (PySem.W.fnOf x x (defArgs st) (defBody st) (defScope st) .none kV dc pm an (.ref c) ct), sl⟩) (k : PySem.W.codeIn K (.ref c) x = true) (kp : PySem.W.keepIn K (.ref f) = true) (e : (codeTab K c).isSome = true) : CodeD K x st := .mk5 a l k kp (Option.some_get e).symm
/-- the running def's code object and its table -/
structure CodeT (K : PySem.W.Frag) (cdv : Value) (P : Addr) : Prop where
  ex : ∃ c, cdv = .ref c ∧ codeTab K c = some P
  tab : TabK K P
theorem codeT_of {K : PySem.W.Frag} {x : Str} {f c P : Addr} {o : Obj} {fd : FuncData} (hx : x ∈ tabNames) (a : PySem.W.nsIn K mainGlobals x = some (some (.ref f))) (l : K.lookup f = some o) (hd : o.data = .func fd) (hc : fd.code = .ref c) (e : codeTab K c = some P) : CodeT K (.ref c) P := by
  obtain ⟨oc, vs, file, tf, flags, tg, inF, text, tt, dd, sl, rfl, h1, h2, _, _, _, _, _, h8⟩ := codeTab_of e
  exact ⟨⟨c, rfl, e⟩, x, f, c, o, fd, _, dd, vs, sl, hx, a, l, hd, hc, h1, h2, h8⟩
section
variable {P : Program} {w : World} {K : PySem.W.Frag} {mg : Str → Option Value} {base h : Heap} {k : Nat} {ps N : List Str} {x : Str} {st : Stmt}
theorem caXC {sp : DSpX} (hx : x ∈ tabNames) (D : CodeD K x st) (X : K.In h) (G : h.Ns mainGlobals mg) (Sc : FnScope N ps (defScope st)) (b : Bnd x st ps) (len : ∀ ds Φ Ψ, sp ds Φ Ψ → ds.length = ps.length)
    (body : ∀ (f : Addr) (cdv : Value) (T : Addr), CodeT K cdv T → ∀ (A : Around) (outer : List Env) (s : Shared) (H : Hp) (E : XK), (A.deeper (envOfC x (defScope st) s.heap.objs.size f cdv)).guards = some [] → Room k (A.deeper (envOfC x (defScope st) s.heap.objs.size f cdv)) →
      ∃ wd, XSs (cxOf (L2.CX P w) P w K mg base N x (defScope st) f cdv A outer s H E) (defBody st) wd ∧ ∀ ds Φ Ψ, sp ds Φ Ψ → wd (endX Φ Ψ) ⟨startE N (ds.map .d), []⟩) : CaX P w K mg base (k + 1) x ps sp := by
  obtain ⟨f, c, T, od, an, sl, oc, kV, dc, pm, ct, a, l, kc, kp, e⟩ := D.ex
  have F : Fun K x x st f (PySem.W.fnOf x x (defArgs st) (defBody st) (defScope st) .none kV dc pm an (.ref c) ct) := fun_mk l kc kp
  refine ⟨f, _, fn_XC F Sc len (fun cdv hc => ?_), PySem.W.mg_of X G a, kp, F.binds b⟩
  cases (show cdv = .ref c from hc.symm)
  exact body f _ T (codeT_of hx a l rfl rfl e)
end
/-! the expression -/
section
variable {X : Cx} {sc : Scope} {N : List Str} {x : Str} {Fr : List Nat} {px gpos : Pos} {elt iter : Expr} {k : Nat} {T : Addr} {v : Bool} {te : TE} {wi : TI}
/-- all (v = true), any (v = false) of a generator expression -/
def tGen (v : Bool) (T : Addr) (Fr : List Nat) (wi : TI) (te : TE) : TE := fun σ H Q => wi σ H fun J H1 => H1 T = some (.ext (tabPh T)) ∧ ∃ (n : Nat) (Lp : Nat → Hp → Prop), Lp 0 H1 ∧ ∀ i H', Lp i H' → i ≤ n ∧
  ((J.stop i H' ∧ Q (.bl v) H') ∨ (i < n ∧ J.go i H' ∧ ∀ y H2, J.yld i H' y H2 → te ((gσ σ Fr).set 1 (some y)) H2 fun u H3 => ∃ b, u = .bl b ∧ (b = v → Lp (i + 1) H3) ∧ (b ≠ v → Q (.bl b) H3)))
theorem gen_ready {pins : List (Addr × Obj)} {σ : L2.St} {H : Hp} {Q : VK} {s : Shared} {Q' : Value → Shared → Prop} (S : GenN X sc N x Fr) (hr : Room (k + 2) X.A) (hgd : X.A.guards = some []) (hbm : BmOk X.mg X.base) (hcd : CodeT X.K X.env.code T)
    (hi : PI X (.Name x px) iter wi) (hel : ∀ (cl : List (Str × Addr)) (C : Addr) (cd : Value) (A : Around) (fp : List Addr) (s0 : Shared) (H0 : Hp), (gnx X sc N cl C cd A fp s0 H0).A.guards = some [] → Room k (gnx X sc N cl C cd A fp s0 H0).A → PE (gnx X sc N cl C cd A fp s0 H0) elt te)
    (hs : ∀ v, genFold iter X.env v = pure v) (I : Inv X pins σ H s) (h : tGen v T Fr wi te σ H Q)
    (hQ : ∀ (Y : Cx) (a : Addr) (go : Obj) (fp : List Addr) (tn : Nat → Heap → Prop) (σ0 : L2.St) (g n : Nat) (Lp : Nat → Hp → Prop) (s5 : Shared), Y.prog = X.prog → go.cls = .type "generator" → (∃ nm qn, go.data = .fields #[.int g 0, nm, qn]) → go.slots = #[] →
      (∀ σ' H' s', Inv Y [(a, go)] σ' H' s' → Inv X pins σ H' s') → s5.heap.IsGen a g →
      GenC X Y X.A.in1.in1 [(a, go)] σ0 fp tn g n v Lp (fun b H' => Q (.bl b) H') 0 s5 → Q' (.ref a) s5) :
    wpAny (model X.prog X.w) X.A (eval (.GeneratorExp elt [⟨.Name x px, iter, [], 0⟩] sc gpos) X.env) Q' X.xe s := by
  refine wpAny_GeneratorExp_make S.co (closure_ok (fun y hy he => I.ok.has y.1 (S.free y hy he))) S.cell S.dot S.kind (by have := hr.dp; omega) ?_ hs
  refine thn (hi.run pins s σ H _ I h) fun xv s1 h1 => thn h1 fun itv s2 h2 => ?_
  obtain ⟨it, fp, tn, J, H2, rfl, I2, Tn, st2, f2, hT, n, Lp, lp0, stp⟩ := h2
  refine ⟨I2.nolimit, ?_⟩
  obtain ⟨⟨c, hc, ht⟩, tk⟩ := hcd
  obtain ⟨⟨ps, hP, htr⟩, thT, stT⟩ := I2.hok T _ hT
  have cd0 : PySem.W.CodeHd s2.heap c T := codeHd_of I2.kIn ht
  obtain ⟨bm, ob, b1, b2, b3, b4, b5, b6, b7⟩ := hbm
  have bT : bm ≠ T := fun z => by
    have := (I2.bs bm ob b4).2
    rw [z, hT] at this
    cases this
  have gT : mainGlobals ≠ T := fun z => by
    obtain ⟨o, es, ep, e, hd, _⟩ := I2.ok.mod.glob.keeps I2.bk
    rw [z, hP] at e
    cases e
    cases hd
  have lim : cStatics ≠ T := fun z => by
    obtain ⟨_, hns, _⟩ := I2.nolimit
    obtain ⟨o', es, ep, ho, hd, _⟩ := hns
    rw [z, hP] at ho
    cases ho
    cases hd
  have cont : ∀ (code : Value) (h3 : Heap) (t3 : Nat) (ps' : Array Value), Heap.ExtBut T s2.heap h3 → s2.heap.objs.size ≤ h3.objs.size → h3.get? T = some { cls := .none, data := .fields ps' } → TriplesOk ps'.toList →
      wpAny (model X.prog X.w) X.A (builtinsFor X.env.globals X.env.builtins) (fun bi s4 => ∀ h', h'.Ns s4.heap.objs.size (fun y => if y = ".0" then some (.ref it) else none) → Heap.SameBut s4.heap.objs.size (s4.heap.push { cls := .type "frame", data := .dict #[] }) h' →
          Q' (.ref h'.objs.size) { s4 with
            gens := s4.gens.push (.fresh (.compStart (.GeneratorExp elt [⟨.Name x px, iter, [], 0⟩] sc gpos) 0 (.ref it) .none (genEnv sc (cloFrom X.env.cells sc.names []) s4.heap.objs.size code bi X.env))),
            toks := s4.toks + 1 + 1 + 1,
            heap := h'.push { cls := .type "generator", data := .fields #[.int s4.gens.size 0, .str "<genexpr>" (s4.toks + 1), .str (X.env.qual ++ "<genexpr>") (s4.toks + 1 + 1)] } }) X.xe { s2 with heap := h3, toks := t3 } := by
    intro code h3 t3 ps' hx hsz hP3 ht3
    have keep3 : ∀ b u, b ≠ T → s2.heap.get? b = some u → h3.get? b = some u := fun b u hb e => hx b u hb e
    refine wpAny_builtinsFor (m := X.mg) (by rw [I2.ok.glob]; exact (I2.ok.mod.glob.keeps I2.bk).extBut hx gT) b1 b2 (keep3 _ _ bT (I2.bk _ _ b4)) b5 b6 b7 ?_
    intro h' hn' hs'
    have hsz' : h'.objs.size = h3.objs.size + 1 := by rw [hs'.1, Heap.size_push]
    have keep' : ∀ b o, h3.get? b = some o → h'.get? b = some o := fun b o e => hs'.extBut b o (Nat.ne_of_lt (Heap.lt_size e)) (Heap.get?_push_of_some _ e)
    have keep5 : ∀ b o, h3.get? b = some o → (h'.push { cls := .type "generator", data := .fields #[.int s2.gens.size 0, .str "<genexpr>" (t3 + 1), .str (X.env.qual ++ "<genexpr>") (t3 + 1 + 1)] }).get? b = some o :=
      fun b o e => Heap.get?_push_of_some _ (keep' b o e)
    have I5 := inv_made (gs := s2.gens.push (.fresh (.compStart (.GeneratorExp elt [⟨.Name x px, iter, [], 0⟩] sc gpos) 0 (.ref it) .none (genEnv sc (cloFrom X.env.cells sc.names []) h3.objs.size code builtinsNs X.env)))) (cd := code) (A := X.A.in1.in1) (tk := t3 + 1 + 1 + 1) S I2 hr.hd I2.ok.frames hT f2 (fun b hb => let ⟨o, e, _⟩ := Tn.obj 0 _ st2 b hb; ⟨o, e⟩) hsz (by rw [hsz']; exact Nat.lt_succ_self _)
      (fun b o hb e => keep5 b o (keep3 b o hb e)) ⟨ps', keep5 _ _ hP3, ht3⟩ ⟨_, hn'.push _⟩ (Heap.get?_push_size _ rfl) (fun v z => by cases z) (AllBare.push I2.bare rfl)
    have isg : (h'.push { cls := .type "generator", data := .fields #[.int s2.gens.size 0, .str "<genexpr>" (t3 + 1), .str (X.env.qual ++ "<genexpr>") (t3 + 1 + 1)] }).IsGen h'.objs.size s2.gens.size := ⟨_, _, _, Heap.get?_push_size _ rfl, rfl, rfl, rfl⟩
    have fpT : ∀ b ∈ fp, b ≠ T := fun b hb z => by
      have := (f2 b hb).1
      rw [z, hT] at this
      cases this
    have st5 : tn 0 (h'.push { cls := .type "generator", data := .fields #[.int s2.gens.size 0, .str "<genexpr>" (t3 + 1), .str (X.env.qual ++ "<genexpr>") (t3 + 1 + 1)] }) := Tn.keep _ _ _ st2 fun b hb o e => keep5 b o (keep3 b o (fpT b hb) e)
    have lt2 : ∀ b ∈ fp, b < s2.heap.objs.size := fun b hb => let ⟨o, e, _⟩ := Tn.obj 0 _ st2 b hb; Heap.lt_size e
    have room : Room k (gnx X sc N (cloFrom X.env.cells sc.names []) h3.objs.size code X.A.in1.in1 fp s2 H2).A := ⟨hr.hd, by have := hr.dp; show X.A.depth + 1 + 3 * k + 5 < _; omega, by have := hr.un; show X.A.units + 1 + 1 + 3 + 16 * k + 200 < _; omega⟩
    have gt : GenT (gnx X sc N (cloFrom X.env.cells sc.names []) h3.objs.size code X.A.in1.in1 fp s2 H2) [(h'.objs.size, { cls := .type "generator", data := .fields #[.int s2.gens.size 0, .str "<genexpr>" (t3 + 1), .str (X.env.qual ++ "<genexpr>") (t3 + 1 + 1)] })] (gσ σ Fr) (.Name x px) fp it tn J n v Lp (fun b H' => Q (.bl b) H') te := by
      refine ⟨Tn, fun H' hf b hb => ⟨hf b hb, ?_, fun hm => ?_, .inl hb, fun y cc e z => (f2 b hb).2.2.2.2.1 y cc (clo_at S I2.ok e) z, fun p hp z => ?_⟩, stp⟩
      · exact Nat.ne_of_lt (Nat.lt_of_lt_of_le (lt2 b hb) hsz)
      · rcases List.mem_cons.mp (I2.stkSub b hm) with z | z
        · exact (f2 b hb).2.1 z
        · exact (f2 b hb).2.2.1 z
      · have e : p.1 = h'.objs.size := by
          rcases List.mem_append.mp hp with y | y
          · cases (show p ∈ ([] : List (Addr × Obj)) from y)
          · rw [List.mem_singleton.mp y]
        have := lt2 b hb
        rw [← z, e, hsz'] at this
        have h9 : h3.objs.size + 1 < s2.heap.objs.size := this
        omega
    refine hQ (gnx X sc N (cloFrom X.env.cells sc.names []) h3.objs.size code X.A.in1.in1 fp s2 H2) _ { cls := .type "generator", data := .fields #[.int s2.gens.size 0, .str "<genexpr>" (t3 + 1), .str (X.env.qual ++ "<genexpr>") (t3 + 1 + 1)] } fp tn (gσ σ Fr) s2.gens.size n Lp _ rfl rfl ⟨_, _, rfl⟩ rfl (fun σ' H' s' J' => ?_) isg ⟨gσ σ Fr, H2, _, I5, st5, Array.getElem?_push_size .., fun s'' J'' st'' => ⟨rfl, ?_⟩⟩
    · exact I2.call' (ch := fp) J'.os J'.base J'.hok J'.bare fun b hb => ⟨(f2 b hb).2.2.2.1, (f2 b hb).2.1, (f2 b hb).2.2.2.2.1, (f2 b hb).2.2.2.2.2⟩
    · exact gen_start (s₀ := s'') S (hel _ _ _ _ _ _ _ (by show X.A.guards = some []; exact hgd) room) gt s'' H2 J'' (fun b hb => (f2 b hb).1) st'' lp0
  cases hf : codeAmong gpos ps.toList with
  | none =>
    refine wpAny_genexprCodeX hc (cd0.code hP htr) (cd0.tab hP) hf fun c' h' t3 hx hge hlt hco' _ htab' _ => ?_
    obtain ⟨o1, vs, f1, tf, fl, tg, inF, tx, tt, op, _, _, _, _, _, _, _, _, _, htr', _⟩ := hco'
    exact cont _ h' t3 _ hx (Nat.le_trans hge (Nat.le_of_lt hlt)) htab'.2 htr'
  | some cv =>
    refine wpAny_genexprCode_hit hc (cd0.code hP htr) hf ?_
    exact cont cv s2.heap s2.toks ps (Heap.ExtBut.refl _ _) (Nat.le_refl _) hP htr

theorem pe_allG {p pos : Pos} (hg : Gl X "all") (hm : X.mg "all" = none) (S : GenN X sc N x Fr) (hr : Room (k + 2) X.A) (hgd : X.A.guards = some []) (hbm : BmOk X.mg X.base) (hcd : CodeT X.K X.env.code T)
    (hi : PI X (.Name x px) iter wi) (hel : ∀ (cl : List (Str × Addr)) (C : Addr) (cd : Value) (A : Around) (fp : List Addr) (s0 : Shared) (H0 : Hp), (gnx X sc N cl C cd A fp s0 H0).A.guards = some [] → Room k (gnx X sc N cl C cd A fp s0 H0).A → PE (gnx X sc N cl C cd A fp s0 H0) elt te)
    (hs : ∀ v, genFold iter X.env v = pure v := by intro _; rfl)
    (he : starEach [.GeneratorExp elt [⟨.Name x px, iter, [], 0⟩] sc gpos] X.env = (false, eval (.GeneratorExp elt [⟨.Name x px, iter, [], 0⟩] sc gpos) X.env) :: starEach [] X.env := by rfl) :
    PE X (.Call (.Name "all" p) [.GeneratorExp elt [⟨.Name x px, iter, [], 0⟩] sc gpos] [] pos) (tGen true T Fr wi te) := by
  refine ⟨fun pins s σ H Q I h => ?_⟩
  refine wpAny_Call_Name_kw (ld_blt I hg hm (show bootBuiltins "all" = some (.builtin "all") by decide +kernel) ?_)
  refine PyProof.Rows.callWith_builtin1 ?_ he (by rfl)
  rw [he]
  show wpAny _ _ (spliced ((false, eval (.GeneratorExp elt [⟨.Name x px, iter, [], 0⟩] sc gpos) X.env) :: backTo pos (starEach [] X.env))) _ _ s
  refine Calls.spliced_cons (gen_ready (Q := Q) S hr hgd hbm hcd hi hel hs I h fun Y a go fp tn σ0 g n Lp s5 hp hc hd hsl hX hg5 hC => ?_)
  refine Calls.spliced_nil ?_
  refine call_function_tree F.kind_all F.plain_all F.entry_all (F.args_all1 _) ?_
  unfold Builtin.«all»
  refine wpAny_bind (m := oneArg "all" _) (wpAny_pure ?_)
  refine wpAny_bind (wpAny_pyIter_gen hg5 ?_)
  have isg : ∀ {σ' : L2.St} {H' : Hp} {s' : Shared}, Inv Y [(a, go)] σ' H' s' → s'.heap.IsGen a g := fun J => by
    obtain ⟨nm, qn, hd⟩ := hd
    exact ⟨go, nm, qn, (J.pin (a, go) (List.mem_append_right _ (List.mem_singleton.mpr rfl))).1, hc, hd, hsl⟩
  exact wpAny_pure ⟨plainId_quiet F.plain_all_loop _, all_turns hr.hd (by have := hr.dp; show X.A.depth < _; omega) isg (fun b s' ⟨σ', H', J, q⟩ => ⟨.bl b, H', hX _ _ _ J, rfl, q⟩) (n - 0) 0 s5 rfl hC⟩

theorem pe_anyG {p pos : Pos} (hg : Gl X "any") (hm : X.mg "any" = none) (S : GenN X sc N x Fr) (hr : Room (k + 2) X.A) (hgd : X.A.guards = some []) (hbm : BmOk X.mg X.base) (hcd : CodeT X.K X.env.code T)
    (hi : PI X (.Name x px) iter wi) (hel : ∀ (cl : List (Str × Addr)) (C : Addr) (cd : Value) (A : Around) (fp : List Addr) (s0 : Shared) (H0 : Hp), (gnx X sc N cl C cd A fp s0 H0).A.guards = some [] → Room k (gnx X sc N cl C cd A fp s0 H0).A → PE (gnx X sc N cl C cd A fp s0 H0) elt te)
    (hs : ∀ v, genFold iter X.env v = pure v := by intro _; rfl)
    (he : starEach [.GeneratorExp elt [⟨.Name x px, iter, [], 0⟩] sc gpos] X.env = (false, eval (.GeneratorExp elt [⟨.Name x px, iter, [], 0⟩] sc gpos) X.env) :: starEach [] X.env := by rfl) :
    PE X (.Call (.Name "any" p) [.GeneratorExp elt [⟨.Name x px, iter, [], 0⟩] sc gpos] [] pos) (tGen false T Fr wi te) := by
  refine ⟨fun pins s σ H Q I h => ?_⟩
  refine wpAny_Call_Name_kw (ld_blt I hg hm (show bootBuiltins "any" = some (.builtin "any") by decide +kernel) ?_)
  refine PyProof.Rows.callWith_builtin1 ?_ he (by rfl)
  rw [he]
  show wpAny _ _ (spliced ((false, eval (.GeneratorExp elt [⟨.Name x px, iter, [], 0⟩] sc gpos) X.env) :: backTo pos (starEach [] X.env))) _ _ s
  refine Calls.spliced_cons (gen_ready (Q := Q) S hr hgd hbm hcd hi hel hs I h fun Y a go fp tn σ0 g n Lp s5 hp hc hd hsl hX hg5 hC => ?_)
  refine Calls.spliced_nil ?_
  refine call_function_tree F.kind_any F.plain_any F.entry_any (F.args_any1 _) ?_
  unfold Builtin.«any»
  refine wpAny_bind (m := oneArg "any" _) (wpAny_pure ?_)
  refine wpAny_bind (wpAny_pyIter_gen hg5 ?_)
  have isg : ∀ {σ' : L2.St} {H' : Hp} {s' : Shared}, Inv Y [(a, go)] σ' H' s' → s'.heap.IsGen a g := fun J => by
    obtain ⟨nm, qn, hd⟩ := hd
    exact ⟨go, nm, qn, (J.pin (a, go) (List.mem_append_right _ (List.mem_singleton.mpr rfl))).1, hc, hd, hsl⟩
  exact wpAny_pure ⟨plainId_quiet F.plain_any_loop _, any_turns hr.hd (by have := hr.dp; show X.A.depth < _; omega) isg (fun b s' ⟨σ', H', J, q⟩ => ⟨.bl b, H', hX _ _ _ J, rfl, q⟩) (n - 0) 0 s5 rfl hC⟩
end
end DL
/-! DL: all, any of a generator expression over data -/
namespace DL
open PySem PySem.Spec PyProof.Rows L2
@[simp] def dOnly : Sl → Sl
  | .d x => .d x
  | _ => .un
/-- the slots of the generator expression's frame -/
@[simp] def gE (s : S) (Fr : List Nat) (x : PyData) : S := ⟨.un :: .d x :: Fr.map (fun j => dOnly (s.e.getD j .un)), []⟩
def gnAll (v : Bool) (w : DE) (E : PyData → S) : List PyData → (Bool → Prop) → Prop
  | [], k => k v
  | x :: xs, k => w (E x) fun d _ => ∃ b, d = .bool b ∧ (b = v → gnAll v w E xs k) ∧ (b ≠ v → k b)
def wGen (v : Bool) (Fr : List Nat) (wi : DI) (w : DE) : DE := fun s Φ => wi s fun xs s1 => gnAll v w (gE s1 Fr) xs fun b => Φ (.bool b) s1
theorem genN_mk {X : Cx} {sc xsc : Scope} {x : Str} {XN ys : List Str} {Fr : List Nat} (hN : X.N = XN) (hsc : X.env.scope = xsc) (kind : sc.kind = .function) (co : sc.isCoroutine = false) (cell : ∀ y ∈ sc.names, y.2 ≠ .cell) (dot : sc.names.lookup (".0" : Str) = some NameKind.local) (loc : sc.names.lookup x = some .local)
    (free : ∀ y ∈ sc.names, y.2 = .free → xsc.names.lookup y.1 = some .cell ∨ xsc.names.lookup y.1 = some .free) (nd : ((".0" : Str) :: x :: ys).Nodup) (len : ys.length = Fr.length) (fr : ∀ p ∈ ys.zip Fr, XN[p.2]? = some p.1 ∧ sc.names.lookup p.1 = some .free) : GenN X sc (".0" :: x :: ys) x Fr := by
  subst hN
  subst hsc
  refine ⟨kind, co, cell, dot, loc, free, nd, rfl, fun i y h => ?_, by simp [len]⟩
  have h' : ys[i]? = some y := h
  have hi : i < ys.length := (List.getElem?_eq_some_iff.mp h').1
  have hj : Fr[i]? = some (Fr[i]'(by omega)) := List.getElem?_eq_getElem (by omega)
  refine ⟨_, hj, fr (y, _) ?_⟩
  refine List.mem_iff_getElem?.mpr ⟨i, ?_⟩
  rw [List.getElem?_zip_eq_some]
  exact ⟨h', hj⟩
theorem rep_gen {K : PySem.W.Frag} {G F H : Hp} {P : Option Addr} {σ : L2.St} {s : S} {Fr : List Nat} {y : V} {x : PyData} (R : Rep K G P F H σ s) (d : Dq K F y x) : Rep K (partH F H none) none F H ((gσ σ Fr).set 1 (some y)) (gE s Fr x) := by
  have noT : ∀ (i : Nat) (z : Sl), (gE s Fr x).e[i]? = some z → z = .un ∨ ∃ u, z = .d u := fun i z h => by
    match i, h with
    | 0, h => exact .inl (Option.some.inj h).symm
    | 1, h => exact .inr ⟨x, (Option.some.inj h).symm⟩
    | i + 2, h =>
      have h' : (Fr.map fun j => dOnly (s.e.getD j .un))[i]? = some z := h
      rw [List.getElem?_map] at h'
      cases q : Fr[i]? with
      | none =>
        rw [q] at h'
        cases h'
      | some j =>
        rw [q] at h'
        cases h'
        show dOnly (s.e.getD j .un) = .un ∨ ∃ u, dOnly (s.e.getD j .un) = .d u
        cases s.e.getD j .un with
        | d u => exact .inr ⟨u, rfl⟩
        | _ => exact .inl rfl
  refine ⟨R.same, part_same, fun b o h => (partH_some h).1, fun i z hz => ?_, fun i j xs ys p hi hj _ _ => ?_, fun a ha => (by cases ha), ?_, fun i j z z' r hi hj hr _ _ => ?_, tabs_part R.tabF fun _ z => by cases z⟩
  · match i, hz with
    | 0, hz =>
      cases (Option.some.inj hz : Sl.un = z)
      exact True.intro
    | 1, hz =>
      cases (Option.some.inj hz : Sl.d x = z)
      exact ⟨y, rfl, d⟩
    | i + 2, hz =>
      have h' : (Fr.map fun j => dOnly (s.e.getD j .un))[i]? = some z := hz
      rw [List.getElem?_map] at h'
      cases q : Fr[i]? with
      | none =>
        rw [q] at h'
        cases h'
      | some j =>
        rw [q] at h'
        cases h'
        show SlOk K (partH F H none) none F H ((gσ σ Fr).set 1 (some y)) (i + 2) (dOnly (s.e.getD j .un))
        rw [List.getD_eq_getElem?_getD]
        cases q2 : s.e[j]? with
        | none => exact True.intro
        | some w =>
          cases w with
          | d u =>
            obtain ⟨v, e1, e2⟩ := R.sl j _ q2
            refine ⟨v, ?_, e2⟩
            show (Fr.map fun j => σ.getD j none)[i]? = some (some v)
            rw [List.getElem?_map, q]
            show some (σ.getD j none) = _
            rw [List.getD_eq_getElem?_getD, e1]
            rfl
          | _ => exact True.intro
  · rcases noT i _ hi with z | ⟨u, z⟩
    · cases z
    · cases z
  · show ((gσ σ Fr).set 1 (some y)).length = (gE s Fr x).e.length
    rw [List.length_set]
    simp [gσ]
  · rcases noT i _ hi with z | ⟨u, z⟩
    · subst z
      cases hr
    · subst z
      cases hr
section
variable {X : Cx} {sc : Scope} {N : List Str} {x : Str} {Fr : List Nat} {px gpos p pos : Pos} {elt iter : Expr} {k : Nat} {T : Addr} {v : Bool} {w : DE} {wi : DI}
theorem gen_of (tk : TabK X.K T) (σ : L2.St) (H : Hp) (Q : VK) (h : tE X.K (wGen v Fr wi w) σ H Q) : tGen v T Fr (tI X.K wi) (tE X.K w) σ H Q := by
  obtain ⟨G, P, F, s, Φ, R, h, kk⟩ := h
  refine ⟨G, P, F, s, _, R, h, fun J F1 H1 s1 xs R1 e1 y1 h1 => ⟨(R1.tabF.gen T tk).2, xs.length, fun i H' => i ≤ xs.length ∧ ∃ F', Rep X.K G P F' H' σ s1 ∧ Same F1 F' ∧ gnAll v w (gE s1 Fr) (xs.drop i) fun b => Φ (.bool b) s1, ⟨Nat.zero_le _, F1, R1, Same.refl F1, h1⟩, fun i H' hl => ?_⟩⟩
  obtain ⟨hi, F', R', e', q⟩ := hl
  obtain ⟨y2, y3⟩ := y1 F' H' e' R'.same i
  refine ⟨hi, ?_⟩
  by_cases hlt : i < xs.length
  · refine .inr ⟨hlt, ?_⟩
    have hx : xs[i]? = some xs[i] := List.getElem?_eq_getElem hlt
    obtain ⟨g1, g2⟩ := y2 _ hx
    refine ⟨g1, fun y H2 hy => ?_⟩
    obtain ⟨F2, fr, dy⟩ := g2 y H2 hy
    have R2 := R'.fresh fr
    rw [List.drop_eq_getElem_cons hlt] at q
    refine ⟨_, none, F2, _, _, rep_gen R2 dy, q, fun u F3 H3 s3 z R3 e3 dz ⟨b, hb, q1, q2⟩ => ?_⟩
    subst hb
    cases dz
    have f3 : Fresh F2 H2 F3 H3 := fresh_of ⟨R2.same, R2.tabF⟩ R3 e3
    have R4 := R2.fresh f3
    exact ⟨b, rfl, fun hb => ⟨hlt, F3, R4, e'.trans (fr.ff.trans e3), q1 hb⟩, fun hb => kk _ F3 H3 s1 _ R4 (e1.trans (e'.trans (fr.ff.trans e3))) (.bl b) (q2 hb)⟩
  · have hge : xs.length ≤ i := Nat.le_of_not_lt hlt
    rw [List.drop_of_length_le hge] at q
    exact .inl ⟨y3 hge, kk _ F' H' s1 _ R' (e1.trans e') (.bl v) q⟩
theorem xe_allG (hg : Gl X "all") (hm : X.mg "all" = none) (S : GenN X sc N x Fr) (hr : Room (k + 2) X.A) (hgd : X.A.guards = some []) (hbm : BmOk X.mg X.base) (hcd : CodeT X.K X.env.code T)
    (hi : XI X (.Name x px) iter wi) (hel : ∀ (cl : List (Str × Addr)) (C : Addr) (cd : Value) (A : Around) (fp : List Addr) (s0 : Shared) (H0 : Hp), (gnx X sc N cl C cd A fp s0 H0).A.guards = some [] → Room k (gnx X sc N cl C cd A fp s0 H0).A → XE (gnx X sc N cl C cd A fp s0 H0) elt w)
    (hs : ∀ v, genFold iter X.env v = pure v := by intro _; rfl)
    (he : starEach [.GeneratorExp elt [⟨.Name x px, iter, [], 0⟩] sc gpos] X.env = (false, eval (.GeneratorExp elt [⟨.Name x px, iter, [], 0⟩] sc gpos) X.env) :: starEach [] X.env := by rfl) :
    XE X (.Call (.Name "all" p) [.GeneratorExp elt [⟨.Name x px, iter, [], 0⟩] sc gpos] [] pos) (wGen true Fr wi w) := pe_imp (pe_allG hg hm S hr hgd hbm hcd hi hel hs he) fun σ H Q h => gen_of hcd.tab σ H Q h
theorem xe_anyG (hg : Gl X "any") (hm : X.mg "any" = none) (S : GenN X sc N x Fr) (hr : Room (k + 2) X.A) (hgd : X.A.guards = some []) (hbm : BmOk X.mg X.base) (hcd : CodeT X.K X.env.code T)
    (hi : XI X (.Name x px) iter wi) (hel : ∀ (cl : List (Str × Addr)) (C : Addr) (cd : Value) (A : Around) (fp : List Addr) (s0 : Shared) (H0 : Hp), (gnx X sc N cl C cd A fp s0 H0).A.guards = some [] → Room k (gnx X sc N cl C cd A fp s0 H0).A → XE (gnx X sc N cl C cd A fp s0 H0) elt w)
    (hs : ∀ v, genFold iter X.env v = pure v := by intro _; rfl)
    (he : starEach [.GeneratorExp elt [⟨.Name x px, iter, [], 0⟩] sc gpos] X.env = (false, eval (.GeneratorExp elt [⟨.Name x px, iter, [], 0⟩] sc gpos) X.env) :: starEach [] X.env := by rfl) :
    XE X (.Call (.Name "any" p) [.GeneratorExp elt [⟨.Name x px, iter, [], 0⟩] sc gpos] [] pos) (wGen false Fr wi w) := pe_imp (pe_anyG hg hm S hr hgd hbm hcd hi hel hs he) fun σ H Q h => gen_of hcd.tab σ H Q h
end
end DL
/-! DL: list(range(..)) -/
namespace DL
open PySem PySem.Spec PyProof.Rows L2
theorem cr_listR {X : Cx} {k : Nat} (hr : Room k X.A) : CallR X (.type "list") (fun xs H Q => ∃ p lo hi, xs = [.ref p] ∧ H p = some (.rng lo hi) ∧ RgOk lo hi ∧ ∀ l, H l = none → Q (.ref l) (upd H l (.lst (rgV lo hi)))) := by
  intro pins s σ H xs us Q I r h
  obtain ⟨p, a, b, rfl, hp, ⟨b1, b2, b3, b4, b5⟩, q⟩ := h
  obtain ⟨u, rfl, rx⟩ := vals1 r
  obtain rfl : u = Value.ref p := rx
  obtain ⟨t, u, v, e⟩ := I.hok p _ hp
  refine call_list_range (n := (b - a).toNat) hr.hd (show IsRange s.heap p a b 1 t u v from e) (small_one b1 b2 b3 b4) (rangeSize_nat a b) b5 fun h' tk acc c' hk e' hi => ?_
  refine ⟨.ref s.heap.objs.size, upd H s.heap.objs.size (.lst (rgV a b)), I.laid hk (Nat.le_refl _) (show ObjOk X.prog X.w _ _ _ (.lst (rgV a b)) from ⟨?_, acc.toList, c', vals_rg hi, ?_⟩), rfl, q _ (I.hok.fresh (Nat.le_refl _))⟩
  · rw [rgV_length, sizeLine_eq]; omega
  · rw [Array.toArray_toList]; exact e'
theorem rgV_dq {K : PySem.W.Frag} {F : Hp} (lo hi : Int) : DqA K F (rgV lo hi) (rangeD lo (hi - lo).toNat) := by
  unfold rgV rangeD
  induction (hi - lo).toNat with
  | zero => exact .nil
  | succ n ih =>
    rw [List.range_succ, List.map_append, List.map_append]
    exact ih.append (.cons (.int _) .nil)
@[simp] def gListR : PyData → (PyData → Prop) → Prop := fun x Φ => match x with
  | .dict [(.int lo, .int hi)] => RgOk lo hi ∧ Φ (.list (rangeD lo (hi - lo).toNat))
  | _ => False
theorem opn_listR {K : PySem.W.Frag} : OpN K (fun xs H Q => ∃ p lo hi, xs = [.ref p] ∧ H p = some (.rng lo hi) ∧ RgOk lo hi ∧ ∀ l, H l = none → Q (.ref l) (upd H l (.lst (rgV lo hi)))) (wN1 gListR) := opN1 fun F H v x Q Φ s d w k => by
  cases d with
  | @rng _ lo hi h1 =>
    refine ⟨_, _, _, rfl, s _ _ h1, w.1, fun l hl => ?_⟩
    have f := Fresh.new (o := .lst (rgV lo hi)) s hl
    exact k _ _ _ _ f (.lst upd_same (rgV_dq _ _)) w.2
  | _ => exact w.elim
end DL
/-! DL: all, any of a generator expression with any target (its names at the slots 1 .. nt, captured ones behind) -/
namespace DL
open PySem PySem.Spec PyProof.Rows L2 GenW
structure GenM (X : Cx) (sc : Scope) (N : List Str) (nt : Nat) (Fr : List Nat) : Prop where
  kind : sc.kind = .function
  co : sc.isCoroutine = false
  cell : ∀ y ∈ sc.names, y.2 ≠ .cell
  dot : sc.names.lookup (".0" : Str) = some NameKind.local
  free : ∀ y ∈ sc.names, y.2 = .free → X.env.scope.names.lookup y.1 = some .cell ∨ X.env.scope.names.lookup y.1 = some .free
  nd : N.Nodup
  frs : ∀ (i : Nat) (y : Str), N[i + (nt + 1)]? = some y → ∃ j, Fr[i]? = some j ∧ X.N[j]? = some y ∧ sc.names.lookup y = some .free
  len : N.length = Fr.length + (nt + 1)
def gσM (σ : L2.St) (nt : Nat) (Fr : List Nat) : L2.St := List.replicate (nt + 1) none ++ Fr.map fun j => σ.getD j none
theorem gσM_len {σ : L2.St} {nt : Nat} {Fr : List Nat} : (gσM σ nt Fr).length = Fr.length + (nt + 1) := by
  simp [gσM]
  omega
/-- the same but for the target's slots -/
def OffM (nt : Nat) (σ σ0 : L2.St) : Prop := σ.length = σ0.length ∧ ∀ i, (i = 0 ∨ nt < i) → σ[i]? = σ0[i]?
theorem over_genM {A : Around} {elt iter tg : Expr} {gpos : Pos} {sc : Scope} {it acc : Value} {env : Env} : A.over (.compLoop (.GeneratorExp elt [⟨tg, iter, [], 0⟩] sc gpos) 0 it acc env) [] = A.deeper env := by
  first
    | rfl
    | (obtain ⟨hd, d, fr, gs, u⟩ := A; simp [Around.over, Around.deeper, marksOver, frameCount, unitsOf, envsOf, guardsOf, pushEnvs, pushGuards, Code.envs, Code.env?, Code.isFrame, Code.guards, Code.isGuard, Code.weight, Code.frames, Code.isCreation, Code.isCaller, Code.cUnits])
theorem OffM.refl (nt : Nat) (σ : L2.St) : OffM nt σ σ := ⟨rfl, fun _ _ => rfl⟩
section
variable {X : Cx} {sc : Scope} {N : List Str} {nt : Nat} {Fr : List Nat} {cl : List (Str × Addr)} {C a it : Addr} {cd : Value} {A : Around} {fp : List Addr} {s0 : Shared} {H0 : Hp} {pins : List (Addr × Obj)} {σ0 : L2.St} {gpos : Pos} {elt iter tg : Expr} {gw : TG}
  {tn : Nat → Heap → Prop} {J : It} {n g : Nat} {v : Bool} {Lp : Nat → Hp → Prop} {Qb : Bool → Hp → Prop} {te : TE}
/-- the end of the generator's run; what is handed out -/
def GenRM (Y : Cx) (pins : List (Addr × Obj)) (D : Hp → Prop) : GenEnd := fun n s₀ r s1 => r = .ok .next ∧ ∃ σ' H', Inv Y pins σ' H' s1 ∧ D H'
def GenPM (nt : Nat) (Y : Cx) (pins : List (Addr × Obj)) (σ0 : L2.St) (fp : List Addr) (tn : Nat → Heap → Prop) (n : Nat) (v : Bool) (Lp : Nat → Hp → Prop) (Qb : Bool → Hp → Prop) : Protocol := fun m s₀ u s1 kap =>
  ∃ (i : Nat) (b : Bool) (σ' : L2.St) (H' : Hp), m + (i + 1) = n ∧ u = .bool b ∧ Inv Y pins σ' H' s1 ∧ OffM nt σ' σ0 ∧ (∀ b ∈ fp, H' b = none) ∧ tn (i + 1) s1.heap ∧ (b = v → Lp (i + 1) H') ∧ (b ≠ v → Qb b H') ∧
    ∀ s'', Inv Y pins σ' H' s'' → tn (i + 1) s''.heap → b = v → kap (.send .none) s''
/-- what is wanted of the turns -/
structure GenTM (nt : Nat) (gw : TG) (Y : Cx) (pins : List (Addr × Obj)) (σ0 : L2.St) (tg : Expr) (fp : List Addr) (it : Addr) (tn : Nat → Heap → Prop) (J : It) (n : Nat) (v : Bool) (Lp : Nat → Hp → Prop) (Qb : Bool → Hp → Prop) (te : TE) : Prop where
  T : Turn Y.prog Y.w Y.K tg J fp it tn
  ok : ∀ (H : Hp), (∀ b ∈ fp, H b = none) → ∀ b ∈ fp, FpOk Y pins H b
  step : ∀ i H σ, OffM nt σ σ0 → Lp i H → i ≤ n ∧ ((J.stop i H ∧ Qb v H) ∨ (i < n ∧ J.go i H ∧ ∀ y H2, J.yld i H y H2 → gw y σ H2 fun σ1 H3 => OffM nt σ1 σ0 ∧ te σ1 H3 fun u H4 => ∃ b, u = .bl b ∧ (b = v → Lp (i + 1) H4) ∧ (b ≠ v → Qb b H4)))
theorem genM_turns (S : GenM X sc N nt Fr) (hpg : PG (gnx X sc N cl C cd A fp s0 H0) tg gw) (hel : PE (gnx X sc N cl C cd A fp s0 H0) elt te) (G : GenTM nt gw (gnx X sc N cl C cd A fp s0 H0) pins σ0 tg fp it tn J n v Lp Qb te) :
    ∀ (k i : Nat) (s₀ s : Shared) (σ : L2.St) (H : Hp), n - i = k → Inv (gnx X sc N cl C cd A fp s0 H0) pins σ H s → OffM nt σ σ0 → (∀ b ∈ fp, H b = none) → tn i s.heap → Lp i H →
      Seg (model X.prog X.w) A (GenRM (gnx X sc N cl C cd A fp s0 H0) pins (Qb v)) (GenPM nt (gnx X sc N cl C cd A fp s0 H0) pins σ0 fp tn n v Lp Qb) (n - i) s₀
        (.compLoop (.GeneratorExp elt [⟨tg, iter, [], 0⟩] sc gpos) 0 (.ref it) .none (gnx X sc N cl C cd A fp s0 H0).env)
        ((model X.prog X.w).den (.compLoop (.GeneratorExp elt [⟨tg, iter, [], 0⟩] sc gpos) 0 (.ref it) .none (gnx X sc N cl C cd A fp s0 H0).env)) [] s := by
  intro k
  induction k with
  | zero =>
    intro i s₀ s σ H hk I hσ hf st lp
    obtain ⟨hi, q⟩ := G.step i H σ hσ lp
    rcases q with ⟨stop, q⟩ | ⟨lt, _⟩
    · show Seg _ A _ _ _ s₀ _ ((compTurn (.GeneratorExp elt [⟨tg, iter, [], 0⟩] sc gpos) 0 (.ref it) .none (gnx X sc N cl C cd A fp s0 H0).env).onRaise (leaving (gnx X sc N cl C cd A fp s0 H0).env)) [] s
      rw [compTurn_gen, Sem.onRaise_eq_wrap]
      refine seg_bind_wrap (wpAny_standAt ?_)
      refine seg_bind_wrap ?_
      rw [over_genM]
      refine thn (G.T.done (gnx X sc N cl C cd A fp s0 H0) rfl rfl rfl rfl i pins s σ H _ I (G.ok H hf) st stop) fun r s1 ⟨hr, I1⟩ => ?_
      subst hr
      exact seg_end (.ok .next) ⟨rfl, σ, H, I1, q⟩
    · omega
  | succ k ih =>
    intro i s₀ s σ H hk I hσ hf st lp
    obtain ⟨hi, q⟩ := G.step i H σ hσ lp
    show Seg _ A _ _ _ s₀ _ ((compTurn (.GeneratorExp elt [⟨tg, iter, [], 0⟩] sc gpos) 0 (.ref it) .none (gnx X sc N cl C cd A fp s0 H0).env).onRaise (leaving (gnx X sc N cl C cd A fp s0 H0).env)) [] s
    rw [compTurn_gen, Sem.onRaise_eq_wrap]
    refine seg_bind_wrap (wpAny_standAt ?_)
    refine seg_bind_wrap ?_
    rw [over_genM]
    rcases q with ⟨stop, q⟩ | ⟨lt, go, q⟩
    · refine thn (G.T.done (gnx X sc N cl C cd A fp s0 H0) rfl rfl rfl rfl i pins s σ H _ I (G.ok H hf) st stop) fun r s1 ⟨hr, I1⟩ => ?_
      subst hr
      exact seg_end (.ok .next) ⟨rfl, σ, H, I1, q⟩
    · obtain ⟨m, hm⟩ : ∃ m, n - i = m + 1 := ⟨n - i - 1, by omega⟩
      rw [hm]
      refine thn (G.T.item (gnx X sc N cl C cd A fp s0 H0) rfl rfl rfl rfl i pins s σ H _ I (G.ok H hf) st go) fun r s1 ⟨u, hr, h1⟩ => ?_
      subst hr
      refine seg_bind_wrap ?_
      rw [over_genM]
      refine thn h1 fun _ s2 ⟨y, H2, I2, r2, y2, st2, f2⟩ => ?_
      have I2' := I2.pinned (G.ok H2 f2) (G.T.obj _ _ st2)
      refine seg_bind_wrap ?_
      rw [over_genM]
      refine wpAny_mono (hpg.run _ s2 σ H2 y _ _ I2' r2 (q y H2 y2)) (fun _ s3 ⟨σ1, H3, I3, off1, q3⟩ => ?_) fun _ _ z => False.elim z
      refine seg_bind_wrap (wpAny_of_eq (a := true) (by simp only [List.forIn_nil]) ?_)
      simp only [if_true]
      have hy : ∀ v, yieldOut (gnx X sc N cl C cd A fp s0 H0).env v = yieldValue v := fun v => by
        have e : (gnx X sc N cl C cd A fp s0 H0).env.scope.isCoroutine = false := S.co
        simp only [yieldOut, e, Bool.false_eq_true, if_false]
      simp only [hy]
      rw [Sem.bind_eq_wrap', Sem.bind_eq_wrap', Sem.wrap_wrap, Sem.wrap_wrap]
      refine seg_wrap ?_
      rw [over_genM]
      refine wpAny_mono (hel.run _ s3 σ1 H3 _ I3 q3) (fun w s4 ⟨d, H4, I4, r4, b, hd, q1, q2⟩ => ?_) fun _ _ z => False.elim z
      subst hd
      obtain rfl : w = Value.bool b := r4
      have stk : tn (i + 1) s4.heap := G.T.keep _ _ _ st2 fun b hb o e => (I4.pin (b, o) (List.mem_append_right _ (List.mem_append_right _ (mem_pinsAt hb e)))).1
      have fk : ∀ b ∈ fp, H4 b = none := fun b hb => by
        obtain ⟨o, e, d⟩ := G.T.obj _ _ st2 b hb
        exact (I4.pin (b, o) (List.mem_append_right _ (List.mem_append_right _ (mem_pinsAt hb e)))).2.1
      refine seg_at (seg_yield rfl rfl rfl ⟨i, b, _, H4, by omega, rfl, I4.unpinned, off1, fk, stk, q1, q2, fun s'' I5 st5 hb => ?_⟩)
      have e : m = n - (i + 1) := by omega
      rw [e]
      exact seg_again rfl (ih (i + 1) s'' s'' _ H4 (by omega) I5 off1 fk st5 (q1 hb))

theorem genM_start (S : GenM X sc N nt Fr) (hpg : PG (gnx X sc N cl C cd A fp s0 H0) tg gw) (hel : PE (gnx X sc N cl C cd A fp s0 H0) elt te) (G : GenTM nt gw (gnx X sc N cl C cd A fp s0 H0) pins σ0 tg fp it tn J n v Lp Qb te) (s₀ s : Shared) (H : Hp) (I : Inv (gnx X sc N cl C cd A fp s0 H0) pins σ0 H s) (hf : ∀ b ∈ fp, H b = none) (st : tn 0 s.heap) (lp : Lp 0 H) :
      Seg (model X.prog X.w) A (GenRM (gnx X sc N cl C cd A fp s0 H0) pins (Qb v)) (GenPM nt (gnx X sc N cl C cd A fp s0 H0) pins σ0 fp tn n v Lp Qb) (n - 0) s₀
        (.compStart (.GeneratorExp elt [⟨tg, iter, [], 0⟩] sc gpos) 0 (.ref it) .none (gnx X sc N cl C cd A fp s0 H0).env)
        ((model X.prog X.w).den (.compStart (.GeneratorExp elt [⟨tg, iter, [], 0⟩] sc gpos) 0 (.ref it) .none (gnx X sc N cl C cd A fp s0 H0).env)) [] s := by
  have loop := genM_turns (gpos := gpos) (iter := iter) S hpg hel G (n - 0) 0 s₀ s σ0 H rfl I (OffM.refl _ _) hf st lp
  show Seg _ A _ _ _ s₀ _ ((compStart (.GeneratorExp elt [⟨tg, iter, [], 0⟩] sc gpos) 0 (.ref it) .none (gnx X sc N cl C cd A fp s0 H0).env).onRaise (leaving (gnx X sc N cl C cd A fp s0 H0).env)) [] s
  unfold compStart
  rw [Sem.onRaise_eq_wrap]
  show Seg _ A _ _ _ s₀ _ ((ask >>= _).wrap _ _ _ _) [] s
  refine seg_bind_wrap (wpAny_askSetting ?_)
  split
  · exact seg_again rfl loop
  · first
      | exact seg_bind_wrap (wpAny_rule (seg_bind_wrap (wpAny_standAt (seg_bind_wrap (G.T.self _ 0 s _ _ st (seg_again rfl loop))))))
      | (refine seg_bind_wrap (wpAny_rule ?_); show Seg _ A _ _ _ s₀ _ ((standAt iter.pos >>= _).wrap _ _ _ _) [] s; exact seg_bind_wrap (wpAny_standAt (seg_bind_wrap (G.T.self _ 0 s _ _ st (seg_again rfl loop)))))
/-- the table of generators changed -/
theorem inv_genM {Y : Cx} {pins : List (Addr × Obj)} {σ : L2.St} {H : Hp} {s : Shared} (I : Inv Y pins σ H s) {s' : Shared} (hh : s'.heap = s.heap) (ho : s'.os = s.os) (hb : AllBare s'.gens) : Inv Y pins σ H s' :=
  I.call' (ch := []) ho (by rw [hh]; exact Un.refl) (by rw [hh]; exact I.hok) hb fun b z => by cases z
/-- where the consumer stands -/
def GenCM (nt : Nat) (X Y : Cx) (A : Around) (pins : List (Addr × Obj)) (σ0 : L2.St) (fp : List Addr) (tn : Nat → Heap → Prop) (g n : Nat) (v : Bool) (Lp : Nat → Hp → Prop) (Qb : Bool → Hp → Prop) (i : Nat) (s : Shared) : Prop :=
  ∃ (σ : L2.St) (H : Hp) (gs : GenState), Inv Y pins σ H s ∧ tn i s.heap ∧ s.gens[g]? = some gs ∧ ∀ s'', Inv Y pins σ H s'' → tn i s''.heap → gs.Goes (model X.prog X.w) A (GenRM Y pins (Qb v)) (GenPM nt Y pins σ0 fp tn n v Lp Qb) (n - i) (.send .none) s''
section
variable {Y : Cx} {B : Around} {R : Result → Shared → Prop}
theorem genM_next {Q : Option Value → Shared → Prop} {E : Value → Shared → Prop} {s : Shared} {i : Nat} (hh : B.handled = none) (hroom : B.depth < recursionLimit) (hg : ∀ {σ : L2.St} {H : Hp} {s : Shared}, Inv Y pins σ H s → s.heap.IsGen a g)
    (h : GenCM nt X Y B.in1 pins σ0 fp tn g n v Lp Qb i s)
    (stop : ∀ s', (∃ σ' H', Inv Y pins σ' H' s' ∧ Qb v H') → Q none s')
    (same : i < n → ∀ s', GenCM nt X Y B.in1 pins σ0 fp tn g n v Lp Qb (i + 1) s' → Q (some (.bool v)) s')
    (other : ∀ b s', b ≠ v → (∃ σ' H', Inv Y pins σ' H' s' ∧ Qb b H') → Q (some (.bool b)) s') : wpAny (model X.prog X.w) B (pyNext (.ref a)) Q E s := by
  obtain ⟨σ, H, gs, I, st, hgs, go⟩ := h
  have hgl : g < s.gens.size := (Array.getElem?_eq_some_iff.mp hgs).1
  have ab : ∀ {z : GenState}, z.bare = true → AllBare (s.setGen g z).gens := fun hz => allBare_setGen I.bare hz
  refine wpAny_gsz (n := g + 1) hgl (wpAny_pyNext_genexpQ (P := fun _ _ s1 => ∃ σ' H', Inv Y pins σ' H' s1 ∧ Qb v H') hh I.nolimit hroom (hg I) hgs (go _ (inv_genM I rfl rfl (ab rfl)) st) (fun w s1 gs' hbare hv => ?_) fun s1 hp h' hk => ?_)
  · intro hsz
    have hsz1 : g < s1.gens.size := by
      have q : (s1.setGen g gs').gens.size = s1.gens.size := setGen_size _ _ _
      have hsz' : g + 1 ≤ (s1.setGen g gs').gens.size := hsz
      omega
    obtain ⟨i', b, σ', H', hi, rfl, I1, hσ, hf, st1, q1, q2, kap⟩ := hv
    have I2 : Inv Y pins σ' H' (s1.setGen g gs') := inv_genM I1 rfl rfl (allBare_setGen I1.bare hbare)
    by_cases hb : b = v
    · subst hb
      cases hn : n - i with
      | zero =>
        rw [hn] at kap
        exact False.elim (kap s1 I1 st1 rfl)
      | succ m =>
        rw [hn] at kap hi
        have e : i' = i := by omega
        subst e
        refine same (by omega) _ ⟨σ', H', gs', I2, st1, setGen_at hsz1, fun s'' I3 st3 => ?_⟩
        have := kap s'' I3 st3 rfl
        have e : n - (i' + 1) = m := by omega
        rw [e]
        exact this
    · exact other b _ hb ⟨σ', H', I2, q2 hb⟩
  · intro _
    obtain ⟨σ', H', I1, q⟩ := hp
    have I2 : Inv Y pins σ' H' (s1.setGen g .finished) := inv_genM I1 rfl rfl (allBare_setGen I1.bare rfl)
    exact stop _ ⟨σ', H', I2.kept (t' := s1.toks) hk, q⟩
theorem allM_turns (hh : B.handled = none) (hroom : B.depth < recursionLimit) (hg : ∀ {σ : L2.St} {H : Hp} {s : Shared}, Inv Y pins σ H s → s.heap.IsGen a g)
    (out : ∀ b s', (∃ σ' H', Inv Y pins σ' H' s' ∧ Qb b H') → R (.ok (.ret (.bool b))) s') :
    ∀ (k i : Nat) (s : Shared), n - i = k → GenCM nt X Y B.in1.in1 pins σ0 fp tn g n true Lp Qb i s → codeAny (model X.prog X.w) B (.builtin "all.loop" ⟨[.ref a], []⟩) R s := by
  intro k
  induction k with
  | zero =>
    intro i s hk h
    refine codeAny_builtin F.entry_all_loop ?_
    rw [Around.under_plainId F.plain_all_loop _]
    show wpAny _ B.in1 (pyNext (.ref a) >>= _) _ _ s
    refine wpAny_bind (genM_next (B := B.in1) hh hroom hg h (fun s' q => wpAny_bind (wpAny_rule (wpAny_pure (out true s' q)))) (fun lt => by omega) fun b s' hb q => ?_)
    have e : b = false := by cases b <;> simp_all
    subst e
    refine wpAny_bind (wpAny_holding (wpAny_truthy_bool (wpAny_bind (wpAny_letGo ?_))))
    simp only [Bool.false_eq_true, if_false]
    exact wpAny_bind (wpAny_rule (wpAny_pure (out false s' q)))
  | succ k ih =>
    intro i s hk h
    refine codeAny_builtin F.entry_all_loop ?_
    rw [Around.under_plainId F.plain_all_loop _]
    show wpAny _ B.in1 (pyNext (.ref a) >>= _) _ _ s
    refine wpAny_bind (genM_next (B := B.in1) hh hroom hg h (fun s' q => wpAny_bind (wpAny_rule (wpAny_pure (out true s' q)))) (fun lt s' hc => ?_) fun b s' hb q => ?_)
    · refine wpAny_bind (wpAny_holding (wpAny_truthy_bool (wpAny_bind (wpAny_letGo ?_))))
      simp only [if_true]
      exact wpAny_pure ⟨plainId_quiet F.plain_all_loop _, ih (i + 1) s' (by omega) hc⟩
    · have e : b = false := by cases b <;> simp_all
      subst e
      refine wpAny_bind (wpAny_holding (wpAny_truthy_bool (wpAny_bind (wpAny_letGo ?_))))
      simp only [Bool.false_eq_true, if_false]
      exact wpAny_bind (wpAny_rule (wpAny_pure (out false s' q)))
theorem anyM_turns (hh : B.handled = none) (hroom : B.depth < recursionLimit) (hg : ∀ {σ : L2.St} {H : Hp} {s : Shared}, Inv Y pins σ H s → s.heap.IsGen a g)
    (out : ∀ b s', (∃ σ' H', Inv Y pins σ' H' s' ∧ Qb b H') → R (.ok (.ret (.bool b))) s') :
    ∀ (k i : Nat) (s : Shared), n - i = k → GenCM nt X Y B.in1.in1 pins σ0 fp tn g n false Lp Qb i s → codeAny (model X.prog X.w) B (.builtin "any.loop" ⟨[.ref a], []⟩) R s := by
  intro k
  induction k with
  | zero =>
    intro i s hk h
    refine codeAny_builtin F.entry_any_loop ?_
    rw [Around.under_plainId F.plain_any_loop _]
    show wpAny _ B.in1 (pyNext (.ref a) >>= _) _ _ s
    refine wpAny_bind (genM_next (B := B.in1) hh hroom hg h (fun s' q => wpAny_bind (wpAny_rule (wpAny_pure (out false s' q)))) (fun lt => by omega) fun b s' hb q => ?_)
    have e : b = true := by cases b <;> simp_all
    subst e
    refine wpAny_bind (wpAny_holding (wpAny_truthy_bool (wpAny_bind (wpAny_letGo ?_))))
    simp only [if_true]
    exact wpAny_bind (wpAny_rule (wpAny_pure (out true s' q)))
  | succ k ih =>
    intro i s hk h
    refine codeAny_builtin F.entry_any_loop ?_
    rw [Around.under_plainId F.plain_any_loop _]
    show wpAny _ B.in1 (pyNext (.ref a) >>= _) _ _ s
    refine wpAny_bind (genM_next (B := B.in1) hh hroom hg h (fun s' q => wpAny_bind (wpAny_rule (wpAny_pure (out false s' q)))) (fun lt s' hc => ?_) fun b s' hb q => ?_)
    · refine wpAny_bind (wpAny_holding (wpAny_truthy_bool (wpAny_bind (wpAny_letGo ?_))))
      simp only [Bool.false_eq_true, if_false]
      exact wpAny_pure ⟨plainId_quiet F.plain_any_loop _, ih (i + 1) s' (by omega) hc⟩
    · have e : b = true := by cases b <;> simp_all
      subst e
      refine wpAny_bind (wpAny_holding (wpAny_truthy_bool (wpAny_bind (wpAny_letGo ?_))))
      simp only [if_true]
      exact wpAny_bind (wpAny_rule (wpAny_pure (out true s' q)))
end
end

theorem cloM_at {X : Cx} {sc : Scope} {N : List Str} {nt : Nat} {Fr : List Nat} (S : GenM X sc N nt Fr) (ok : X.Ok) {y : Str} {c : Addr} (h : (cloFrom X.env.cells sc.names []).lookup y = some c) : X.env.cells.lookup y = some c := by
  rcases cloFrom_mem (PySem.mem_of_lookup h) with z | ⟨h1, h2⟩
  · cases z
  · obtain ⟨c', e⟩ := ok.has y (S.free _ h1 rfl).symm.symm
    rw [e] at h2 ⊢
    rw [h2]
    rfl
theorem cloM_has {X : Cx} {sc : Scope} {N : List Str} {nt : Nat} {Fr : List Nat} (S : GenM X sc N nt Fr) {y : Str} (h : sc.names.lookup y = some .free) : ∃ c, (cloFrom X.env.cells sc.names []).lookup y = some c :=
  mem_lookup (cloFrom_has (PySem.mem_of_lookup h))
section
variable {X : Cx} {sc : Scope} {N : List Str} {nt : Nat} {Fr : List Nat} {P : Addr} {cd : Value} {A : Around} {fp : List Addr} {s2 : Shared} {H2 : Hp} {pins : List (Addr × Obj)} {σ : L2.St}
/-- the frame and the generator are laid -/
theorem inv_madeM (S : GenM X sc N nt Fr) (I : Inv X pins σ H2 s2) (hA : A.handled = none) (hAf : A.frames = some X.stack) (hP : H2 P = some (.ext (tabPh P))) (ff : ∀ b ∈ fp, FpOk X pins H2 b) (fo : ∀ b ∈ fp, ∃ o, s2.heap.get? b = some o)
    {C a : Addr} {h5 : Heap} {gs : Array GenState} {tk : Nat} {go : Obj} (hC : s2.heap.objs.size ≤ C) (ha : C < a) (keep : ∀ b o, b ≠ P → s2.heap.get? b = some o → h5.get? b = some o) (hP5 : tabPh P h5) (m0 : ∃ m, h5.Ns C m) (hgo : h5.get? a = some go) (hgd : ∀ v, go.data ≠ .cell v)
    (hb : AllBare gs) : Inv (gnx X sc N (cloFrom X.env.cells sc.names []) C cd A fp s2 H2) [(a, go)] (gσM σ nt Fr) H2 { s2 with gens := gs, toks := tk, heap := h5 } := by
  have nP : ∀ b, H2 b = none → b ≠ P := fun b e z => by
    rw [z, hP] at e
    cases e
  have lt : ∀ b o, s2.heap.get? b = some o → b < s2.heap.objs.size := fun b o e => Heap.lt_size e
  have hCl : ∀ {y : Str} {c : Addr}, (cloFrom X.env.cells sc.names []).lookup y = some c → X.env.cells.lookup y = some c := fun h => cloM_at S I.ok h
  have cellAt : ∀ y c, X.env.cells.lookup y = some c → ∀ v, s2.heap.IsCell c v → h5.IsCell c v := fun y c e v ⟨o, e1, e2⟩ => ⟨o, keep c o (nP c (I.freeC y c e)) e1, e2⟩
  have thP : ∃ o, h5.get? P = some o := let ⟨ps, e, _⟩ := hP5; ⟨_, e⟩
  refine ⟨⟨I.ok.mod, S.kind, I.ok.glob, rfl, hC, fun y z c h1 h2 => I.ok.inj y z c (hCl h1) (hCl h2), fun y hy => ?_, fun y c z => (by cases z), fun _ => hA, ?_, .inr ⟨rfl, rfl⟩, fun b hb => ⟨?_, fun y c e z => ?_⟩, I.bs, Nat.le_trans I.ok.bsz I.sz, fun b o e hb => ?_, fun b hb hm => ?_, I.stack, I.stkFree⟩,
    rfl, hb, ⟨fun b o e n _ _ => keep b o (nP b n) e, fun b o e n _ _ => ⟨o.slots, keep b o (nP b n) e⟩, fun b o _ n _ => n, fun b o e _ => ?_, fun b xs e => e, fun b o u e => e, fun b ps e => ⟨#[], by have e' : H2 b = some (.tbl ps) := e; rw [e']; simp⟩⟩, ?_, fun y c e => ?_, I.hok.fresh hC, fun y c e => I.freeC y c (hCl e), fun p hp => ?_, fun b u e => ?_, ?_⟩
  · rcases hy with hy | hy
    · exact absurd rfl (S.cell _ (PySem.mem_of_lookup hy))
    · exact cloM_has S hy
  · exact Around.frames_deeper hAf
  · obtain ⟨o, e⟩ := fo b hb
    exact Nat.ne_of_lt (Nat.lt_of_lt_of_le (lt b o e) hC)
  · exact (ff b hb).2.2.2.2.1 y c (hCl e) z
  · rcases (ff b hb).2.2.2.1 with z | z
    · exact I.ok.noex b o e z
    · have h1 := Heap.lt_size e
      exact absurd (Nat.lt_of_lt_of_le h1 (Nat.le_trans I.ok.bsz z)) (Nat.lt_irrefl _)
  · rcases List.mem_cons.mp (I.stkSub b hm) with z | z
    · exact (ff b hb).2.1 z
    · exact (ff b hb).2.2.1 z
  · by_cases hbP : b = P
    · rw [hbP]
      exact thP
    · exact ⟨o, keep b o hbP e⟩
  · obtain ⟨m, hm⟩ := m0
    refine ⟨m, hm, fun i y v h1 h2 h3 => ?_⟩
    by_cases hlt : i < nt + 1
    · have e0 : (gσM σ nt Fr)[i]? = some none := by
        show (List.replicate (nt + 1) none ++ Fr.map fun j => σ.getD j none)[i]? = _
        rw [List.getElem?_append_left (by rw [List.length_replicate]; exact hlt), List.getElem?_replicate, if_pos hlt]
      have h2' : (gσM σ nt Fr)[i]? = some (some v) := h2
      rw [e0] at h2'
      cases h2'
    · obtain ⟨l, rfl⟩ : ∃ l, i = l + (nt + 1) := ⟨i - (nt + 1), by omega⟩
      obtain ⟨j, e1, e2, e3⟩ := S.frs l y h1
      have h2' : (gσM σ nt Fr)[l + (nt + 1)]? = some (some v) := h2
      have e0 : (gσM σ nt Fr)[l + (nt + 1)]? = (Fr.map fun j => σ.getD j none)[l]? := by
        show (List.replicate (nt + 1) none ++ Fr.map fun j => σ.getD j none)[l + (nt + 1)]? = _
        rw [List.getElem?_append_right (by rw [List.length_replicate]; omega), List.length_replicate, Nat.add_sub_cancel]
      rw [e0, List.getElem?_map, e1] at h2'
      have h4 : σ.getD j none = some v := Option.some.inj h2'
      have h5' : σ[j]? = some (some v) := by
        rw [List.getD_eq_getElem?_getD] at h4
        cases q : σ[j]? with
        | none =>
          rw [q] at h4
          cases h4
        | some w =>
          rw [q] at h4
          cases h4
          rfl
      have fr := S.free _ (PySem.mem_of_lookup e3) rfl
      obtain ⟨mX, _, lX⟩ := I.loc
      obtain ⟨u, ru, lk⟩ := lX j y v e2 h5' (by
        rcases fr with z | z
        · exact .inr (.inl z)
        · exact .inr (.inr z))
      refine ⟨u, ru, ?_⟩
      rcases lk with ⟨k1, _⟩ | ⟨_, c, hc, hcell⟩
      · have k1' : X.env.scope.names.lookup y = some .local := k1
        rcases fr with z | z
        · rw [k1'] at z
          cases z
        · rw [k1'] at z
          cases z
      · obtain ⟨c', hc'⟩ := cloM_has S e3
        have := hCl hc'
        rw [hc] at this
        cases this
        exact .inr ⟨.inr e3, c, hc', cellAt y c hc _ hcell⟩
  · obtain ⟨v, q⟩ := I.cell y c (hCl e)
    exact ⟨v, cellAt y c (hCl e) v q⟩
  · have e : p = (a, go) := by
      rcases List.mem_append.mp hp with z | z
      · cases (show p ∈ ([] : List (Addr × Obj)) from z)
      · exact List.mem_singleton.mp z
    subst e
    have hsz : s2.heap.objs.size ≤ a := Nat.le_trans hC (Nat.le_of_lt ha)
    refine ⟨hgo, I.hok.fresh hsz, Nat.ne_of_gt ha, fun hm => ?_, hgd⟩
    rcases List.mem_cons.mp (I.stkSub a hm) with z | z
    · have := I.lt
      rw [← z] at this
      exact absurd (Nat.lt_of_lt_of_le this hsz) (Nat.lt_irrefl _)
    · exact I.nofs hsz z
  · by_cases hbP : b = P
    · subst hbP
      rw [hP] at e
      cases e
      obtain ⟨_, _, st⟩ := I.hok b _ hP
      exact ⟨hP5, thP, st⟩
    · refine (I.hok b u e).stay (fun c w hc q => keep c w (fun z => ?_) q) (fun _ q => q) fun _ _ q => q
      rcases hc with z2 | z2
      · exact hbP (z2.symm.trans z)
      · rw [z, hP] at z2
        cases z2
  · show (gσM σ nt Fr).length = N.length
    rw [S.len, gσM_len]
end

/-! the expression -/
section
variable {X : Cx} {sc : Scope} {N : List Str} {nt : Nat} {Fr : List Nat} {gpos : Pos} {elt iter tg : Expr} {gw : TG} {k : Nat} {T : Addr} {v : Bool} {te : TE} {wi : TI}
/-- all (v = true), any (v = false) of a generator expression -/
def tGenM (v : Bool) (T : Addr) (nt : Nat) (Fr : List Nat) (wi : TI) (gw : TG) (te : TE) : TE := fun σ H Q => wi σ H fun J H1 => H1 T = some (.ext (tabPh T)) ∧ ∃ (n : Nat) (Lp : Nat → Hp → Prop), Lp 0 H1 ∧ ∀ i H' σ', OffM nt σ' (gσM σ nt Fr) → Lp i H' → i ≤ n ∧
  ((J.stop i H' ∧ Q (.bl v) H') ∨ (i < n ∧ J.go i H' ∧ ∀ y H2, J.yld i H' y H2 → gw y σ' H2 fun σ1 H3 => OffM nt σ1 (gσM σ nt Fr) ∧ te σ1 H3 fun u H4 => ∃ b, u = .bl b ∧ (b = v → Lp (i + 1) H4) ∧ (b ≠ v → Q (.bl b) H4)))
theorem genM_ready {pins : List (Addr × Obj)} {σ : L2.St} {H : Hp} {Q : VK} {s : Shared} {Q' : Value → Shared → Prop} (S : GenM X sc N nt Fr) (hr : Room (k + 2) X.A) (hgd : X.A.guards = some []) (hbm : BmOk X.mg X.base) (hcd : CodeT X.K X.env.code T)
    (hi : PI X tg iter wi) (hpg : ∀ (cl : List (Str × Addr)) (C : Addr) (cd : Value) (A : Around) (fp : List Addr) (s0 : Shared) (H0 : Hp), PG (gnx X sc N cl C cd A fp s0 H0) tg gw) (hel : ∀ (cl : List (Str × Addr)) (C : Addr) (cd : Value) (A : Around) (fp : List Addr) (s0 : Shared) (H0 : Hp), (gnx X sc N cl C cd A fp s0 H0).A.guards = some [] → Room k (gnx X sc N cl C cd A fp s0 H0).A → PE (gnx X sc N cl C cd A fp s0 H0) elt te)
    (hs : ∀ v, genFold iter X.env v = pure v) (I : Inv X pins σ H s) (h : tGenM v T nt Fr wi gw te σ H Q)
    (hQ : ∀ (Y : Cx) (a : Addr) (go : Obj) (fp : List Addr) (tn : Nat → Heap → Prop) (σ0 : L2.St) (g n : Nat) (Lp : Nat → Hp → Prop) (s5 : Shared), Y.prog = X.prog → go.cls = .type "generator" → (∃ nm qn, go.data = .fields #[.int g 0, nm, qn]) → go.slots = #[] →
      (∀ σ' H' s', Inv Y [(a, go)] σ' H' s' → Inv X pins σ H' s') → s5.heap.IsGen a g →
      GenCM nt X Y X.A.in1.in1 [(a, go)] σ0 fp tn g n v Lp (fun b H' => Q (.bl b) H') 0 s5 → Q' (.ref a) s5) :
    wpAny (model X.prog X.w) X.A (eval (.GeneratorExp elt [⟨tg, iter, [], 0⟩] sc gpos) X.env) Q' X.xe s := by
  refine wpAny_GeneratorExp_make S.co (closure_ok (fun y hy he => I.ok.has y.1 (S.free y hy he))) S.cell S.dot S.kind (by have := hr.dp; omega) ?_ hs
  refine thn (hi.run pins s σ H _ I h) fun xv s1 h1 => thn h1 fun itv s2 h2 => ?_
  obtain ⟨it, fp, tn, J, H2, rfl, I2, Tn, st2, f2, hT, n, Lp, lp0, stp⟩ := h2
  refine ⟨I2.nolimit, ?_⟩
  obtain ⟨⟨c, hc, ht⟩, tk⟩ := hcd
  obtain ⟨⟨ps, hP, htr⟩, thT, stT⟩ := I2.hok T _ hT
  have cd0 : PySem.W.CodeHd s2.heap c T := codeHd_of I2.kIn ht
  obtain ⟨bm, ob, b1, b2, b3, b4, b5, b6, b7⟩ := hbm
  have bT : bm ≠ T := fun z => by
    have := (I2.bs bm ob b4).2
    rw [z, hT] at this
    cases this
  have gT : mainGlobals ≠ T := fun z => by
    obtain ⟨o, es, ep, e, hd, _⟩ := I2.ok.mod.glob.keeps I2.bk
    rw [z, hP] at e
    cases e
    cases hd
  have lim : cStatics ≠ T := fun z => by
    obtain ⟨_, hns, _⟩ := I2.nolimit
    obtain ⟨o', es, ep, ho, hd, _⟩ := hns
    rw [z, hP] at ho
    cases ho
    cases hd
  have cont : ∀ (code : Value) (h3 : Heap) (t3 : Nat) (ps' : Array Value), Heap.ExtBut T s2.heap h3 → s2.heap.objs.size ≤ h3.objs.size → h3.get? T = some { cls := .none, data := .fields ps' } → TriplesOk ps'.toList →
      wpAny (model X.prog X.w) X.A (builtinsFor X.env.globals X.env.builtins) (fun bi s4 => ∀ h', h'.Ns s4.heap.objs.size (fun y => if y = ".0" then some (.ref it) else none) → Heap.SameBut s4.heap.objs.size (s4.heap.push { cls := .type "frame", data := .dict #[] }) h' →
          Q' (.ref h'.objs.size) { s4 with
            gens := s4.gens.push (.fresh (.compStart (.GeneratorExp elt [⟨tg, iter, [], 0⟩] sc gpos) 0 (.ref it) .none (genEnv sc (cloFrom X.env.cells sc.names []) s4.heap.objs.size code bi X.env))),
            toks := s4.toks + 1 + 1 + 1,
            heap := h'.push { cls := .type "generator", data := .fields #[.int s4.gens.size 0, .str "<genexpr>" (s4.toks + 1), .str (X.env.qual ++ "<genexpr>") (s4.toks + 1 + 1)] } }) X.xe { s2 with heap := h3, toks := t3 } := by
    intro code h3 t3 ps' hx hsz hP3 ht3
    have keep3 : ∀ b u, b ≠ T → s2.heap.get? b = some u → h3.get? b = some u := fun b u hb e => hx b u hb e
    refine wpAny_builtinsFor (m := X.mg) (by rw [I2.ok.glob]; exact (I2.ok.mod.glob.keeps I2.bk).extBut hx gT) b1 b2 (keep3 _ _ bT (I2.bk _ _ b4)) b5 b6 b7 ?_
    intro h' hn' hs'
    have hsz' : h'.objs.size = h3.objs.size + 1 := by rw [hs'.1, Heap.size_push]
    have keep' : ∀ b o, h3.get? b = some o → h'.get? b = some o := fun b o e => hs'.extBut b o (Nat.ne_of_lt (Heap.lt_size e)) (Heap.get?_push_of_some _ e)
    have keep5 : ∀ b o, h3.get? b = some o → (h'.push { cls := .type "generator", data := .fields #[.int s2.gens.size 0, .str "<genexpr>" (t3 + 1), .str (X.env.qual ++ "<genexpr>") (t3 + 1 + 1)] }).get? b = some o :=
      fun b o e => Heap.get?_push_of_some _ (keep' b o e)
    have I5 := inv_madeM (gs := s2.gens.push (.fresh (.compStart (.GeneratorExp elt [⟨tg, iter, [], 0⟩] sc gpos) 0 (.ref it) .none (genEnv sc (cloFrom X.env.cells sc.names []) h3.objs.size code builtinsNs X.env)))) (cd := code) (A := X.A.in1.in1) (tk := t3 + 1 + 1 + 1) S I2 hr.hd I2.ok.frames hT f2 (fun b hb => let ⟨o, e, _⟩ := Tn.obj 0 _ st2 b hb; ⟨o, e⟩) hsz (by rw [hsz']; exact Nat.lt_succ_self _)
      (fun b o hb e => keep5 b o (keep3 b o hb e)) ⟨ps', keep5 _ _ hP3, ht3⟩ ⟨_, hn'.push _⟩ (Heap.get?_push_size _ rfl) (fun v z => by cases z) (AllBare.push I2.bare rfl)
    have isg : (h'.push { cls := .type "generator", data := .fields #[.int s2.gens.size 0, .str "<genexpr>" (t3 + 1), .str (X.env.qual ++ "<genexpr>") (t3 + 1 + 1)] }).IsGen h'.objs.size s2.gens.size := ⟨_, _, _, Heap.get?_push_size _ rfl, rfl, rfl, rfl⟩
    have fpT : ∀ b ∈ fp, b ≠ T := fun b hb z => by
      have := (f2 b hb).1
      rw [z, hT] at this
      cases this
    have st5 : tn 0 (h'.push { cls := .type "generator", data := .fields #[.int s2.gens.size 0, .str "<genexpr>" (t3 + 1), .str (X.env.qual ++ "<genexpr>") (t3 + 1 + 1)] }) := Tn.keep _ _ _ st2 fun b hb o e => keep5 b o (keep3 b o (fpT b hb) e)
    have lt2 : ∀ b ∈ fp, b < s2.heap.objs.size := fun b hb => let ⟨o, e, _⟩ := Tn.obj 0 _ st2 b hb; Heap.lt_size e
    have room : Room k (gnx X sc N (cloFrom X.env.cells sc.names []) h3.objs.size code X.A.in1.in1 fp s2 H2).A := ⟨hr.hd, by have := hr.dp; show X.A.depth + 1 + 3 * k + 5 < _; omega, by have := hr.un; show X.A.units + 1 + 1 + 3 + 16 * k + 200 < _; omega⟩
    have gt : GenTM nt gw (gnx X sc N (cloFrom X.env.cells sc.names []) h3.objs.size code X.A.in1.in1 fp s2 H2) [(h'.objs.size, { cls := .type "generator", data := .fields #[.int s2.gens.size 0, .str "<genexpr>" (t3 + 1), .str (X.env.qual ++ "<genexpr>") (t3 + 1 + 1)] })] (gσM σ nt Fr) tg fp it tn J n v Lp (fun b H' => Q (.bl b) H') te := by
      refine ⟨Tn, fun H' hf b hb => ⟨hf b hb, ?_, fun hm => ?_, .inl hb, fun y cc e z => (f2 b hb).2.2.2.2.1 y cc (cloM_at S I2.ok e) z, fun p hp z => ?_⟩, stp⟩
      · exact Nat.ne_of_lt (Nat.lt_of_lt_of_le (lt2 b hb) hsz)
      · rcases List.mem_cons.mp (I2.stkSub b hm) with z | z
        · exact (f2 b hb).2.1 z
        · exact (f2 b hb).2.2.1 z
      · have e : p.1 = h'.objs.size := by
          rcases List.mem_append.mp hp with y | y
          · cases (show p ∈ ([] : List (Addr × Obj)) from y)
          · rw [List.mem_singleton.mp y]
        have := lt2 b hb
        rw [← z, e, hsz'] at this
        have h9 : h3.objs.size + 1 < s2.heap.objs.size := this
        omega
    refine hQ (gnx X sc N (cloFrom X.env.cells sc.names []) h3.objs.size code X.A.in1.in1 fp s2 H2) _ { cls := .type "generator", data := .fields #[.int s2.gens.size 0, .str "<genexpr>" (t3 + 1), .str (X.env.qual ++ "<genexpr>") (t3 + 1 + 1)] } fp tn (gσM σ nt Fr) s2.gens.size n Lp _ rfl rfl ⟨_, _, rfl⟩ rfl (fun σ' H' s' J' => ?_) isg ⟨gσM σ nt Fr, H2, _, I5, st5, Array.getElem?_push_size .., fun s'' J'' st'' => ⟨rfl, ?_⟩⟩
    · exact I2.call' (ch := fp) J'.os J'.base J'.hok J'.bare fun b hb => ⟨(f2 b hb).2.2.2.1, (f2 b hb).2.1, (f2 b hb).2.2.2.2.1, (f2 b hb).2.2.2.2.2⟩
    · exact genM_start (s₀ := s'') S (hpg _ _ _ _ _ _ _) (hel _ _ _ _ _ _ _ (by show X.A.guards = some []; exact hgd) room) gt s'' H2 J'' (fun b hb => (f2 b hb).1) st'' lp0
  cases hf : codeAmong gpos ps.toList with
  | none =>
    refine wpAny_genexprCodeX hc (cd0.code hP htr) (cd0.tab hP) hf fun c' h' t3 hx hge hlt hco' _ htab' _ => ?_
    obtain ⟨o1, vs, f1, tf, fl, tg, inF, tx, tt, op, _, _, _, _, _, _, _, _, _, htr', _⟩ := hco'
    exact cont _ h' t3 _ hx (Nat.le_trans hge (Nat.le_of_lt hlt)) htab'.2 htr'
  | some cv =>
    refine wpAny_genexprCode_hit hc (cd0.code hP htr) hf ?_
    exact cont cv s2.heap s2.toks ps (Heap.ExtBut.refl _ _) (Nat.le_refl _) hP htr

theorem pe_allM {p pos : Pos} (hg : Gl X "all") (hm : X.mg "all" = none) (S : GenM X sc N nt Fr) (hr : Room (k + 2) X.A) (hgd : X.A.guards = some []) (hbm : BmOk X.mg X.base) (hcd : CodeT X.K X.env.code T)
    (hi : PI X tg iter wi) (hpg : ∀ (cl : List (Str × Addr)) (C : Addr) (cd : Value) (A : Around) (fp : List Addr) (s0 : Shared) (H0 : Hp), PG (gnx X sc N cl C cd A fp s0 H0) tg gw) (hel : ∀ (cl : List (Str × Addr)) (C : Addr) (cd : Value) (A : Around) (fp : List Addr) (s0 : Shared) (H0 : Hp), (gnx X sc N cl C cd A fp s0 H0).A.guards = some [] → Room k (gnx X sc N cl C cd A fp s0 H0).A → PE (gnx X sc N cl C cd A fp s0 H0) elt te)
    (hs : ∀ v, genFold iter X.env v = pure v := by intro _; rfl)
    (he : starEach [.GeneratorExp elt [⟨tg, iter, [], 0⟩] sc gpos] X.env = (false, eval (.GeneratorExp elt [⟨tg, iter, [], 0⟩] sc gpos) X.env) :: starEach [] X.env := by rfl) :
    PE X (.Call (.Name "all" p) [.GeneratorExp elt [⟨tg, iter, [], 0⟩] sc gpos] [] pos) (tGenM true T nt Fr wi gw te) := by
  refine ⟨fun pins s σ H Q I h => ?_⟩
  refine wpAny_Call_Name_kw (ld_blt I hg hm (show bootBuiltins "all" = some (.builtin "all") by decide +kernel) ?_)
  refine PyProof.Rows.callWith_builtin1 ?_ he (by rfl)
  rw [he]
  show wpAny _ _ (spliced ((false, eval (.GeneratorExp elt [⟨tg, iter, [], 0⟩] sc gpos) X.env) :: backTo pos (starEach [] X.env))) _ _ s
  refine Calls.spliced_cons (genM_ready (Q := Q) S hr hgd hbm hcd hi hpg hel hs I h fun Y a go fp tn σ0 g n Lp s5 hp hc hd hsl hX hg5 hC => ?_)
  refine Calls.spliced_nil ?_
  refine call_function_tree F.kind_all F.plain_all F.entry_all (F.args_all1 _) ?_
  unfold Builtin.«all»
  refine wpAny_bind (m := oneArg "all" _) (wpAny_pure ?_)
  refine wpAny_bind (wpAny_pyIter_gen hg5 ?_)
  have isg : ∀ {σ' : L2.St} {H' : Hp} {s' : Shared}, Inv Y [(a, go)] σ' H' s' → s'.heap.IsGen a g := fun J => by
    obtain ⟨nm, qn, hd⟩ := hd
    exact ⟨go, nm, qn, (J.pin (a, go) (List.mem_append_right _ (List.mem_singleton.mpr rfl))).1, hc, hd, hsl⟩
  exact wpAny_pure ⟨plainId_quiet F.plain_all_loop _, allM_turns hr.hd (by have := hr.dp; show X.A.depth < _; omega) isg (fun b s' ⟨σ', H', J, q⟩ => ⟨.bl b, H', hX _ _ _ J, rfl, q⟩) (n - 0) 0 s5 rfl hC⟩

theorem pe_anyM {p pos : Pos} (hg : Gl X "any") (hm : X.mg "any" = none) (S : GenM X sc N nt Fr) (hr : Room (k + 2) X.A) (hgd : X.A.guards = some []) (hbm : BmOk X.mg X.base) (hcd : CodeT X.K X.env.code T)
    (hi : PI X tg iter wi) (hpg : ∀ (cl : List (Str × Addr)) (C : Addr) (cd : Value) (A : Around) (fp : List Addr) (s0 : Shared) (H0 : Hp), PG (gnx X sc N cl C cd A fp s0 H0) tg gw) (hel : ∀ (cl : List (Str × Addr)) (C : Addr) (cd : Value) (A : Around) (fp : List Addr) (s0 : Shared) (H0 : Hp), (gnx X sc N cl C cd A fp s0 H0).A.guards = some [] → Room k (gnx X sc N cl C cd A fp s0 H0).A → PE (gnx X sc N cl C cd A fp s0 H0) elt te)
    (hs : ∀ v, genFold iter X.env v = pure v := by intro _; rfl)
    (he : starEach [.GeneratorExp elt [⟨tg, iter, [], 0⟩] sc gpos] X.env = (false, eval (.GeneratorExp elt [⟨tg, iter, [], 0⟩] sc gpos) X.env) :: starEach [] X.env := by rfl) :
    PE X (.Call (.Name "any" p) [.GeneratorExp elt [⟨tg, iter, [], 0⟩] sc gpos] [] pos) (tGenM false T nt Fr wi gw te) := by
  refine ⟨fun pins s σ H Q I h => ?_⟩
  refine wpAny_Call_Name_kw (ld_blt I hg hm (show bootBuiltins "any" = some (.builtin "any") by decide +kernel) ?_)
  refine PyProof.Rows.callWith_builtin1 ?_ he (by rfl)
  rw [he]
  show wpAny _ _ (spliced ((false, eval (.GeneratorExp elt [⟨tg, iter, [], 0⟩] sc gpos) X.env) :: backTo pos (starEach [] X.env))) _ _ s
  refine Calls.spliced_cons (genM_ready (Q := Q) S hr hgd hbm hcd hi hpg hel hs I h fun Y a go fp tn σ0 g n Lp s5 hp hc hd hsl hX hg5 hC => ?_)
  refine Calls.spliced_nil ?_
  refine call_function_tree F.kind_any F.plain_any F.entry_any (F.args_any1 _) ?_
  unfold Builtin.«any»
  refine wpAny_bind (m := oneArg "any" _) (wpAny_pure ?_)
  refine wpAny_bind (wpAny_pyIter_gen hg5 ?_)
  have isg : ∀ {σ' : L2.St} {H' : Hp} {s' : Shared}, Inv Y [(a, go)] σ' H' s' → s'.heap.IsGen a g := fun J => by
    obtain ⟨nm, qn, hd⟩ := hd
    exact ⟨go, nm, qn, (J.pin (a, go) (List.mem_append_right _ (List.mem_singleton.mpr rfl))).1, hc, hd, hsl⟩
  exact wpAny_pure ⟨plainId_quiet F.plain_any_loop _, anyM_turns hr.hd (by have := hr.dp; show X.A.depth < _; omega) isg (fun b s' ⟨σ', H', J, q⟩ => ⟨.bl b, H', hX _ _ _ J, rfl, q⟩) (n - 0) 0 s5 rfl hC⟩
end
end DL
/-! DL: all, any of a generator expression with any target, over data -/
namespace DL
open PySem PySem.Spec PyProof.Rows L2
@[simp] def gEM (s : S) (nt : Nat) (Fr : List Nat) : S := ⟨List.replicate (nt + 1) .un ++ Fr.map (fun j => dOnly (s.e.getD j .un)), []⟩
def gnAllM (v : Bool) (wg : DG) (w : DE) (E : S) : List PyData → (Bool → Prop) → Prop
  | [], k => k v
  | x :: xs, k => wg x E fun s1 => w s1 fun d _ => ∃ b, d = .bool b ∧ (b = v → gnAllM v wg w E xs k) ∧ (b ≠ v → k b)
def wGenM (v : Bool) (nt : Nat) (Fr : List Nat) (wi : DI) (wg : DG) (w : DE) : DE := fun s Φ => wi s fun xs s1 => gnAllM v wg w (gEM s1 nt Fr) xs fun b => Φ (.bool b) s1
theorem genM_mk {X : Cx} {sc xsc : Scope} {XN ts ys : List Str} {nt : Nat} {Fr : List Nat} (hN : X.N = XN) (hsc : X.env.scope = xsc) (kind : sc.kind = .function) (co : sc.isCoroutine = false) (cell : ∀ y ∈ sc.names, y.2 ≠ .cell) (dot : sc.names.lookup (".0" : Str) = some NameKind.local)
    (free : ∀ y ∈ sc.names, y.2 = .free → xsc.names.lookup y.1 = some .cell ∨ xsc.names.lookup y.1 = some .free) (nd : ((".0" : Str) :: ts ++ ys).Nodup) (lt : ts.length = nt) (len : ys.length = Fr.length) (fr : ∀ p ∈ ys.zip Fr, XN[p.2]? = some p.1 ∧ sc.names.lookup p.1 = some .free) : GenM X sc ((".0" : Str) :: ts ++ ys) nt Fr := by
  subst hN
  subst hsc
  refine ⟨kind, co, cell, dot, free, nd, fun i y h => ?_, by simp [len, lt]; omega⟩
  have h' : ys[i]? = some y := by
    rw [List.getElem?_append_right (by rw [List.length_cons, lt]; omega), List.length_cons, lt, Nat.add_sub_cancel] at h
    exact h
  have hi : i < ys.length := (List.getElem?_eq_some_iff.mp h').1
  have hj : Fr[i]? = some (Fr[i]'(by omega)) := List.getElem?_eq_getElem (by omega)
  refine ⟨_, hj, fr (y, _) ?_⟩
  refine List.mem_iff_getElem?.mpr ⟨i, ?_⟩
  rw [List.getElem?_zip_eq_some]
  exact ⟨h', hj⟩
theorem rep_genM {K : PySem.W.Frag} {G F H : Hp} {P : Option Addr} {σ σ' : L2.St} {s : S} {nt : Nat} {Fr : List Nat} (R : Rep K G P F H σ s) (off : OffM nt σ' (gσM σ nt Fr)) : Rep K (partH F H none) none F H σ' (gEM s nt Fr) := by
  have at' : ∀ (i : Nat) (z : Sl), (gEM s nt Fr).e[i]? = some z → z = .un ∨ ∃ l j, i = l + (nt + 1) ∧ Fr[l]? = some j ∧ z = dOnly (s.e.getD j .un) := fun i z h => by
    have h' : (List.replicate (nt + 1) Sl.un ++ Fr.map fun j => dOnly (s.e.getD j .un))[i]? = some z := h
    by_cases hlt : i < nt + 1
    · rw [List.getElem?_append_left (by rw [List.length_replicate]; exact hlt), List.getElem?_replicate, if_pos hlt] at h'
      exact .inl (Option.some.inj h').symm
    · obtain ⟨l, rfl⟩ : ∃ l, i = l + (nt + 1) := ⟨i - (nt + 1), by omega⟩
      rw [List.getElem?_append_right (by rw [List.length_replicate]; omega), List.length_replicate, Nat.add_sub_cancel, List.getElem?_map] at h'
      cases q : Fr[l]? with
      | none =>
        rw [q] at h'
        cases h'
      | some j =>
        rw [q] at h'
        exact .inr ⟨l, j, rfl, q, (Option.some.inj h').symm⟩
  have dO : ∀ x : Sl, dOnly x = .un ∨ ∃ u, dOnly x = .d u ∧ x = .d u := fun x => by
    cases x with
    | d u => exact .inr ⟨u, rfl, rfl⟩
    | _ => exact .inl rfl
  have noT : ∀ (i : Nat) (z : Sl), (gEM s nt Fr).e[i]? = some z → z = .un ∨ ∃ u, z = .d u := fun i z h => by
    rcases at' i z h with h | ⟨l, j, _, _, h⟩
    · exact .inl h
    · rcases dO (s.e.getD j .un) with q | ⟨u, q, _⟩
      · exact .inl (h.trans q)
      · exact .inr ⟨u, h.trans q⟩
  refine ⟨R.same, part_same, fun b o h => (partH_some h).1, fun i z hz => ?_, fun i j xs ys p hi hj _ _ => ?_, fun a ha => (by cases ha), ?_, fun i j z z' r hi hj hr _ _ => ?_, tabs_part R.tabF fun _ z => by cases z⟩
  · rcases at' i z hz with h | ⟨l, j, rfl, e, h⟩
    · rw [h]
      exact True.intro
    · rcases dO (s.e.getD j .un) with q | ⟨u, q, q2⟩
      · rw [h, q]
        exact True.intro
      · rw [h, q]
        have hs : s.e[j]? = some (.d u) := by
          rw [List.getD_eq_getElem?_getD] at q2
          cases w : s.e[j]? with
          | none =>
            rw [w] at q2
            cases q2
          | some x =>
            rw [w] at q2
            exact congrArg some q2
        obtain ⟨v, e1, e2⟩ := R.sl j _ hs
        refine ⟨v, ?_, e2⟩
        rw [off.2 _ (.inr (by omega))]
        show (List.replicate (nt + 1) none ++ Fr.map fun j => σ.getD j none)[l + (nt + 1)]? = _
        rw [List.getElem?_append_right (by rw [List.length_replicate]; omega), List.length_replicate, Nat.add_sub_cancel, List.getElem?_map, e]
        show some (σ.getD j none) = _
        rw [List.getD_eq_getElem?_getD, e1]
        rfl
  · rcases noT i _ hi with z | ⟨u, z⟩
    · cases z
    · cases z
  · rw [off.1, gσM_len]
    simp [gEM]
    omega
  · rcases noT i _ hi with z | ⟨u, z⟩
    · subst z
      cases hr
    · subst z
      cases hr
section
variable {X : Cx} {sc : Scope} {N : List Str} {nt : Nat} {Fr : List Nat} {gpos p pos : Pos} {elt iter tg : Expr} {k : Nat} {T : Addr} {v : Bool} {is : List Nat} {wg : DG} {w : DE} {wi : DI}
theorem gen_ofM (tk : TabK X.K T) (hsub : ∀ i ∈ is, i ≠ 0 ∧ i ≤ nt) (σ : L2.St) (H : Hp) (Q : VK) (h : tE X.K (wGenM v nt Fr wi wg w) σ H Q) : tGenM v T nt Fr (tI X.K wi) (tG X.K is wg) (tE X.K w) σ H Q := by
  obtain ⟨G, P, F, s, Φ, R, h, kk⟩ := h
  refine ⟨G, P, F, s, _, R, h, fun J F1 H1 s1 xs R1 e1 y1 h1 => ⟨(R1.tabF.gen T tk).2, xs.length, fun i H' => i ≤ xs.length ∧ ∃ F', Rep X.K G P F' H' σ s1 ∧ Same F1 F' ∧ gnAllM v wg w (gEM s1 nt Fr) (xs.drop i) fun b => Φ (.bool b) s1, ⟨Nat.zero_le _, F1, R1, Same.refl F1, h1⟩, fun i H' σ' off hl => ?_⟩⟩
  obtain ⟨hi, F', R', e', q⟩ := hl
  obtain ⟨y2, y3⟩ := y1 F' H' e' R'.same i
  refine ⟨hi, ?_⟩
  by_cases hlt : i < xs.length
  · refine .inr ⟨hlt, ?_⟩
    have hx : xs[i]? = some xs[i] := List.getElem?_eq_getElem hlt
    obtain ⟨g1, g2⟩ := y2 _ hx
    refine ⟨g1, fun y H2 hy => ?_⟩
    obtain ⟨F2, fr, dy⟩ := g2 y H2 hy
    have R2 := R'.fresh fr
    rw [List.drop_eq_getElem_cons hlt] at q
    refine ⟨_, none, F2, _, _, _, rep_genM R2 off, dy, q, fun σ1 s1' R1' ag ln q1' => ⟨⟨ln.trans off.1, fun j hj => ?_⟩, _, none, F2, s1', _, R1', q1', fun u F3 H3 s3 z R3 e3 dz ⟨b, hb, q1, q2⟩ => ?_⟩⟩
    · rw [ag j (fun z => by
        obtain ⟨a1, a2⟩ := hsub j z
        rcases hj with hj | hj
        · exact a1 hj
        · omega)]
      exact off.2 j hj
    · subst hb
      cases dz
      have f3 : Fresh F2 H2 F3 H3 := fresh_of ⟨R2.same, R2.tabF⟩ R3 e3
      have R4 := R2.fresh f3
      exact ⟨b, rfl, fun hb => ⟨hlt, F3, R4, e'.trans (fr.ff.trans e3), q1 hb⟩, fun hb => kk _ F3 H3 s1 _ R4 (e1.trans (e'.trans (fr.ff.trans e3))) (.bl b) (q2 hb)⟩
  · have hge : xs.length ≤ i := Nat.le_of_not_lt hlt
    rw [List.drop_of_length_le hge] at q
    exact .inl ⟨y3 hge, kk _ F' H' s1 _ R' (e1.trans e') (.bl v) q⟩
theorem xe_allM (hg : Gl X "all") (hm : X.mg "all" = none) (S : GenM X sc N nt Fr) (hr : Room (k + 2) X.A) (hgd : X.A.guards = some []) (hbm : BmOk X.mg X.base) (hcd : CodeT X.K X.env.code T) (hsub : ∀ i ∈ is, i ≠ 0 ∧ i ≤ nt)
    (hi : XI X tg iter wi) (hpg : ∀ (cl : List (Str × Addr)) (C : Addr) (cd : Value) (A : Around) (fp : List Addr) (s0 : Shared) (H0 : Hp), XG (gnx X sc N cl C cd A fp s0 H0) tg is wg)
    (hel : ∀ (cl : List (Str × Addr)) (C : Addr) (cd : Value) (A : Around) (fp : List Addr) (s0 : Shared) (H0 : Hp), (gnx X sc N cl C cd A fp s0 H0).A.guards = some [] → Room k (gnx X sc N cl C cd A fp s0 H0).A → XE (gnx X sc N cl C cd A fp s0 H0) elt w)
    (hs : ∀ v, genFold iter X.env v = pure v := by intro _; rfl)
    (he : starEach [.GeneratorExp elt [⟨tg, iter, [], 0⟩] sc gpos] X.env = (false, eval (.GeneratorExp elt [⟨tg, iter, [], 0⟩] sc gpos) X.env) :: starEach [] X.env := by rfl) :
    XE X (.Call (.Name "all" p) [.GeneratorExp elt [⟨tg, iter, [], 0⟩] sc gpos] [] pos) (wGenM true nt Fr wi wg w) := pe_imp (pe_allM hg hm S hr hgd hbm hcd hi hpg hel hs he) fun σ H Q h => gen_ofM hcd.tab hsub σ H Q h
theorem xe_anyM (hg : Gl X "any") (hm : X.mg "any" = none) (S : GenM X sc N nt Fr) (hr : Room (k + 2) X.A) (hgd : X.A.guards = some []) (hbm : BmOk X.mg X.base) (hcd : CodeT X.K X.env.code T) (hsub : ∀ i ∈ is, i ≠ 0 ∧ i ≤ nt)
    (hi : XI X tg iter wi) (hpg : ∀ (cl : List (Str × Addr)) (C : Addr) (cd : Value) (A : Around) (fp : List Addr) (s0 : Shared) (H0 : Hp), XG (gnx X sc N cl C cd A fp s0 H0) tg is wg)
    (hel : ∀ (cl : List (Str × Addr)) (C : Addr) (cd : Value) (A : Around) (fp : List Addr) (s0 : Shared) (H0 : Hp), (gnx X sc N cl C cd A fp s0 H0).A.guards = some [] → Room k (gnx X sc N cl C cd A fp s0 H0).A → XE (gnx X sc N cl C cd A fp s0 H0) elt w)
    (hs : ∀ v, genFold iter X.env v = pure v := by intro _; rfl)
    (he : starEach [.GeneratorExp elt [⟨tg, iter, [], 0⟩] sc gpos] X.env = (false, eval (.GeneratorExp elt [⟨tg, iter, [], 0⟩] sc gpos) X.env) :: starEach [] X.env := by rfl) :
    XE X (.Call (.Name "any" p) [.GeneratorExp elt [⟨tg, iter, [], 0⟩] sc gpos] [] pos) (wGenM false nt Fr wi wg w) := pe_imp (pe_anyM hg hm S hr hgd hbm hcd hi hpg hel hs he) fun σ H Q h => gen_ofM hcd.tab hsub σ H Q h
end
end DL
/-! DL: x in c, x not in c of lists of any data -/
namespace DL
open PySem PySem.Spec PyProof.Rows L2
mutual
theorem plain_nd : ∀ d : PyData, d.hasDict = false → d.plain = true
  | .none, _ => rfl
  | .bool _, _ => rfl
  | .int _, _ => rfl
  | .str _, _ => rfl
  | .list xs, h => plainAll_nd xs h
  | .tuple xs, h => plainAll_nd xs h
  | .dict _, h => nomatch h
theorem plainAll_nd : ∀ xs : List PyData, PyData.hasDictAll xs = false → PyData.plainAll xs = true
  | [], _ => rfl
  | x :: xs, h => by
    have h' : x.hasDict = false ∧ PyData.hasDictAll xs = false := by simpa [PyData.hasDictAll] using h
    simp only [PyData.plainAll, plain_nd x h'.1, plainAll_nd xs h'.2, Bool.and_self]
end
def rInD (K : PySem.W.Frag) (neg : Bool) : R2 := fun x y H Q => ∃ d xs, Dp K H x d ∧ Dp K H y (.list xs) ∧ d.hasDict = false ∧ PyData.hasDictAll xs = false ∧ d.depth ≤ 60 ∧ Q (.bl (neg ^^ xs.any fun z => PyData.eqv z d)) H
section
variable {X : Cx}
theorem op_inD (hu : X.A.units + 64 < cLine) : OpR X (compareOp .In) (rInD X.K false) := by
  intro pins s σ H x y v u Q I rx ry h
  obtain ⟨d, xs, hd, he, sd, se, hz, q⟩ := h
  obtain ⟨as, r1⟩ := Dp.reads I d x v hd rx
  obtain ⟨bs, r2⟩ := Dp.reads I (.list xs) y u he ry
  exact SeqAt.in_list_data r2 r1 (plainAll_nd xs se) (plain_nd d sd) (by have := Nat.min_le_right (PyData.depthAll xs) d.depth; omega) ⟨.bl _, H, I, rfl, by simpa using q⟩
theorem op_notInD (hu : X.A.units + 64 < cLine) : OpR X (compareOp .NotIn) (rInD X.K true) := by
  intro pins s σ H x y v u Q I rx ry h
  obtain ⟨d, xs, hd, he, sd, se, hz, q⟩ := h
  obtain ⟨as, r1⟩ := Dp.reads I d x v hd rx
  obtain ⟨bs, r2⟩ := Dp.reads I (.list xs) y u he ry
  exact SeqAt.notIn_list_data r2 r1 (plainAll_nd xs se) (plain_nd d sd) (by have := Nat.min_le_right (PyData.depthAll xs) d.depth; omega) ⟨.bl _, H, I, rfl, by simpa using q⟩
end
@[simp] def wInD (neg : Bool) : W2 := fun x y Φ => match y with
  | .list xs => (x.hasDict = false ∧ PyData.hasDictAll xs = false ∧ x.depth ≤ 60) ∧ Φ (.bool (neg ^^ xs.any fun z => PyData.eqv z x))
  | _ => False
theorem op2_inD {K : PySem.W.Frag} {neg : Bool} : Op2 K (rInD K neg) (wInD neg) := ⟨fun {F H x y dx dy} Q Φ s d1 d2 w k => by
  cases dy with
  | list xs =>
    obtain ⟨⟨h1, h2, h3⟩, w⟩ := w
    exact ⟨dx, xs, (d1.mono s).dp h1, (d2.mono s).dp h2, h1, h2, h3, k _ F H _ (Fresh.refl s) (.bl _) w⟩
  | _ => exact w.elim⟩
end DL
/-! DL: defs that return a new table and a new list; x, y = f(..) of them -/
namespace DL
open PySem PySem.Spec PyProof.Rows L2
section
variable {K : PySem.W.Frag} {G F F' H H' : Hp} {P : Option Addr} {σ : L2.St} {s : S}
/-- new objects are kept -/
theorem Rep.addGs : ∀ {L : List Addr} {G : Hp}, Rep K G P F H σ s → L.Nodup → (∀ r, r ∈ L → F r = none ∧ G r = none ∧ P ≠ some r ∧ (∃ o, H r = some o) ∧ (∀ (i : Nat) (xs : List PyData), s.e[i]? = some (.o xs) → σ[i]? ≠ some (some (.ref r))) ∧ ∀ (i : Nat) (x : Sl), s.e[i]? = some x → r ∉ tads x) →
    ∃ G', Same G G' ∧ (∀ r, r ∈ L → ∃ o, G' r = some o ∧ H r = some o) ∧ Rep K G' P F H σ s
  | [], G, R, _, _ => ⟨G, Same.refl G, (fun r hr => (by cases hr)), R⟩
  | r :: L, G, R, nd, h => by
    obtain ⟨h1, h2, h3, ⟨o, h4⟩, h5, h6⟩ := h r List.mem_cons_self
    have nr := (List.nodup_cons.mp nd).1
    obtain ⟨G', e, k, R'⟩ := Rep.addGs (L := L) (R.addG h4 h1 h3 h5 h6) (List.nodup_cons.mp nd).2 fun q hq => by
      obtain ⟨g1, g2, g3⟩ := h q (List.mem_cons_of_mem _ hq)
      exact ⟨g1, by rw [upd_ne (fun z => nr (by rw [← z]; exact hq))]; exact g2, g3⟩
    refine ⟨G', (same_new h2).trans e, fun q hq => ?_, R'⟩
    rcases List.mem_cons.mp hq with rfl | hq
    · exact ⟨o, e _ _ upd_same, h4⟩
    · exact k q hq
end
abbrev DSpT := List PyData → (List (List PyData) → List PyData → Prop) → Prop
structure FreshT (F H F' H' : Hp) (p r : Addr) (qs : List Addr) : Prop where
  fs : Fresh F H F' H'
  nw : ∀ b, b ∈ r :: p :: qs → H b = none ∧ F' b = none
  nd : (r :: p :: qs).Nodup
def spT (K : PySem.W.Frag) (f : DSpT) : Sp := fun vs H Q _ => ∃ F ds Φ, (Same F H ∧ TabsF K F H) ∧ DqA K F vs ds ∧ f ds Φ ∧ ∀ t p r qs us F' H' xss ys, FreshT F H F' H' p r qs → SqT K H' t [.ref p, .ref r] → H' p = some (.lst (qs.map V.ref)) →
  RowsOk K (fun _ => none) none F' H' qs xss → H' r = some (.lst us) → DqA K F' us ys → Φ xss ys → Q (.ref t) H'
section
variable {P : Program} {w : World} {K : PySem.W.Frag} {mg : Str → Option Value} {base : Heap} {k : Nat} {f : Addr} {fd : FuncData} {ps : List Str} {qual x : Str} {st : Stmt} {N : List Str}
theorem fn_T {sp : DSpT} {vs0 is : List Nat} {wi : DI} {wg : DG} {wt : DT} {wl w2 : DA} (F : Fun K x qual st f fd) (Sc : FnScope N ps (defScope st)) (len : ∀ ds Φ, sp ds Φ → ds.length = ps.length) (hsub : ∀ i ∈ is, i ∈ vs0)
    (hbody : ∀ (cdv : Value) (A : Around) (outer : List Env) (s : Shared) (H : Hp) (E : XK), (A.deeper (envOfC qual (defScope st) s.heap.objs.size f cdv)).guards = some [] → Room k (A.deeper (envOfC qual (defScope st) s.heap.objs.size f cdv)) →
      PSs (cxOf CX0 P w K mg base N qual (defScope st) f cdv A outer s H E).nox (defBody st) (tRet (tTup (tCons (tLc (tI K wi) (tG K is wg) (tT K wt) (tL K wl) vs0) (tCons (tL K w2) tNil)))))
    (hw : ∀ ds Φ, sp ds Φ → wLc vs0 wi wg wt (wFz wl) ⟨startE N (ds.map .d), []⟩ fun ys s1 => ∃ xss : List (List PyData), ys = xss.map .list ∧ w2 s1 fun zs _ => Φ xss zs) : FnG P w K mg base CX0 (k + 1) f fd ps (spT K sp) := by
  refine fng_of F Sc (fun vs H Q E h => ?_) (fun cdv _ A outer s H vs Q E g hr h => ?_)
  · obtain ⟨F, ds, Φ, _, d, hs, _⟩ := h
    rw [d.length]
    exact len ds Φ hs
  · refine ⟨_, (hbody cdv A outer s H E g hr).nox, ?_⟩
    obtain ⟨F, ds, Φ, e, d, hs, kk⟩ := h
    show tLc (tI K wi) (tG K is wg) (tT K wt) (tL K wl) vs0 (L2.start N vs) H fun x H1 => tL K w2 (L2.start N vs) H1 fun y H2 => [x, y].length ≤ sizeLine ∧ ∀ p, H2 p = none → Q (.ref p) (upd H2 p (.tup [x, y]))
    refine lcT_of hsub _ _ _ ⟨_, none, F, _, _, rep_startD e d [], hw ds Φ hs, fun p qs xss F' H' s' R' ee n hp nd rows q => ?_⟩
    obtain ⟨xss', e1, q⟩ := q
    have e2 := map_list_inj e1
    subst e2
    obtain ⟨G', eG, kG, R2⟩ := R'.addGs nd fun r hr => ⟨(n r hr).f, (n r hr).g, (n r hr).np, (by
      rcases List.mem_cons.mp hr with rfl | hr
      · exact ⟨_, hp⟩
      · exact (rows.at' r hr).2.2.2), (n r hr).sl, (n r hr).tb⟩
    refine ⟨G', none, F', s', _, R2, q, fun p2 us F2 H2 s2 ys R3 e3 n2 hp2 d2 q2 => ⟨sz_le (by show 2 ≤ _; omega), fun t ht => ?_⟩⟩
    have tn : ∀ b o, H2 b = some o → b ≠ t := fun b o hb z => by
      rw [z, ht] at hb
      cases hb
    have keep2 : SameT G' (upd H2 t (.tup [.ref p, .ref p2])) := R3.keep.trans (.of (same_new ht))
    have new : ∀ {b : Addr} {G0 F0 : Hp}, Same (partH F H none) G0 → Same F F0 → G0 b = none → F0 b = none → H b = none := fun {b G0 F0} s1 s2 g0 f0 => by
      cases q : H b with
      | none => rfl
      | some o =>
        cases q2 : F b with
        | none =>
          have := s1 b o (partH_at q2 (fun z => by cases z) q)
          rw [g0] at this
          cases this
        | some u =>
          have := s2 b u q2
          rw [f0] at this
          cases this
    refine kk t p p2 qs us F2 (upd H2 t (.tup [.ref p, .ref p2])) xss ys ⟨⟨ee.trans e3, fun b o hb => ?_, fun b o hb => ?_, fun b o hb hF => ?_, fun _ => R3.tab.2.updH⟩, fun b hb => ?_, ?_⟩ (SqT.of upd_same) ?_ ?_ ?_ d2 q2
    · have := R3.same b o hb
      rw [upd_ne (tn b o this)]
      exact this
    · cases hF : F b with
      | none => exact keep2 b o (eG b o (partH_at hF (fun z => by cases z) hb))
      | some u =>
        have q := e.1 b u hF
        rw [hb] at q
        cases q
        have := R3.same b o (e3 b o (ee b o hF))
        have z : (upd H2 t (.tup [.ref p, .ref p2])) b = some o := by
          rw [upd_ne (tn b o this)]
          exact this
        exact ⟨fun _ => z, o, z, rfl⟩
    · exact R3.apart b o (eG b o (partH_at hF (fun z => by cases z) hb))
    · rcases List.mem_cons.mp hb with rfl | hb
      · exact ⟨new eG (ee.trans e3) n2.g n2.f, n2.f⟩
      · obtain ⟨o, g1, g2⟩ := kG b hb
        exact ⟨new (Same.refl _) ee (n b hb).g (n b hb).f, R3.apart b o g1⟩
    · refine List.nodup_cons.mpr ⟨fun z => ?_, nd⟩
      obtain ⟨o, g1, _⟩ := kG p2 z
      have := n2.g
      rw [g1] at this
      cases this
    · obtain ⟨o, g1, g2⟩ := kG p List.mem_cons_self
      rw [hp] at g2
      cases g2
      exact keep2.go g1
    · refine rows.up e3 fun r o hr g1 g2 g3 g4 => ?_
      obtain ⟨o', k1, k2⟩ := kG r (List.mem_cons_of_mem _ hr)
      rw [g4] at k2
      cases k2
      exact ⟨R3.apart r _ k1, rfl, (fun z => by cases z), keep2.go k1⟩
    · rw [upd_ne (tn p2 _ hp2)]
      exact hp2
end
section
variable {X : Cx} {pos : Pos} {e : Expr} {es : List Expr}
/-- x, y = f(..): a table and a list of one's own -/
@[simp] def wSetT2 (i j : Nat) (sp : DSpT) (wa : DA) : DS := fun Φ s => wa s fun ds s1 => sp ds fun xss ys => ∀ p qs, Φ.nx ((s1.put i (.tb p qs xss)).put j (.o ys))
theorem xs_setT2 {k kX i j n : Nat} {x y1 y2 : Str} {ps : List Str} {p p1 p2 tp cp : Pos} {sp : DSpT} {wa : DA} (hc : X.calm = true) (hN : X.N.Nodup) (h1 : X.N[i]? = some y1) (h2 : X.N[j]? = some y2) (hij : i ≠ j) (hx1 : Loc X.env.scope y1) (hx2 : Loc X.env.scope y2)
    (C : Ca X.prog X.w X.K X.mg X.base k x ps (spT X.K sp)) (hgd : X.A.guards = some []) (hr : Room kX X.A) (hk : k ≤ kX) (hg : Gl X x) (ha : XA X (e :: es) wa)
    (hdb : (x == ("__debug__" : Str)) = false := by decide) (he : starEach (e :: es) X.env = (false, eval e X.env) :: starEach es X.env := by rfl) (hpl : (backTo cp (starEach es X.env)).any (·.1) = false := by rfl)
    (hs : swapsWithSole [.Tuple [.Name y1 p1, .Name y2 p2] n tp] (.Call (.Name x p) (e :: es) [] cp) pos.line X.env = pure false := by rfl) (hw : swappedStores [.Tuple [.Name y1 p1, .Name y2 p2] n tp] (.Call (.Name x p) (e :: es) [] cp) X.env = pure none := by rfl)
    (hf1 : X.fn y1 = true ∨ X.env.scope.names.lookup y1 = some .local := by first | exact .inl rfl | exact .inr rfl | assumption) (hf2 : X.fn y2 = true ∨ X.env.scope.names.lookup y2 = some .local := by first | exact .inl rfl | exact .inr rfl | assumption) :
    XS X (.Assign [.Tuple [.Name y1 p1, .Name y2 p2] n tp] (.Call (.Name x p) (e :: es) [] cp) pos) (wSetT2 i j sp wa) := by
  obtain ⟨f, fd, F, gm, kp, b⟩ := C.ex
  refine ps_imp (ps_asg (pe_callG F hgd (hr.mono hk) hg gm kp b .nil pass0 ha hdb he hpl) (pg_tup hc (pgs_cons (pg_name hN h1 hx1 hf1) (pgs_cons (pg_name hN h2 hx2 hf2) pgs_nil))) hs hw) fun D σ H h => ?_
  obtain ⟨G, P, F0, s, Φ, R, h, bb⟩ := h
  refine ⟨G, P, F0, s, _, R, h, fun vs F1 H1 s1 ds R1 e1 d1 q => ?_⟩
  show spT X.K sp (vs ++ []) H1 _ E0
  rw [List.append_nil]
  refine ⟨F1, ds, _, ⟨R1.same, R1.tabF⟩, d1, q, fun t p r qs us F' H' xss ys fr ht hp rows hr2 d2 qx => ?_⟩
  have R2 := R1.fresh fr.fs
  have nu : ∀ b, b ∈ r :: p :: qs → Nu G P F' σ s1 b := fun b hb => by
    have n := R1.nu (fr.nw b hb).1
    exact ⟨(fr.nw b hb).2, n.g, n.np, n.sl, n.tb⟩
  have nd1 := (List.nodup_cons.mp fr.nd)
  have R3 := R2.setT (i := i) (fun b hb => nu b (List.mem_cons_of_mem _ hb)) hp nd1.2 (rows.up (Same.refl F') fun b o hb g1 g2 g3 g4 => ⟨g1, (nu b (List.mem_cons_of_mem _ (List.mem_cons_of_mem _ hb))).g, (nu b (List.mem_cons_of_mem _ (List.mem_cons_of_mem _ hb))).np, g4⟩)
  have n0 := nu r List.mem_cons_self
  have n3 : Nu G P F' (σ.set i (some (.ref p))) (s1.put i (.tb p qs xss)) r := by
    refine ⟨n0.f, n0.g, n0.np, fun l xs hl z => ?_, fun l x hl z => ?_⟩
    · rcases set_get hl with ⟨_, z2⟩ | ⟨ne, hl⟩
      · cases z2
      · rw [List.getElem?_set_ne (Ne.symm ne)] at z
        exact n0.sl l xs hl z
    · rcases set_get hl with ⟨_, z2⟩ | ⟨ne, hl⟩
      · rw [z2] at z
        exact nd1.1 z
      · exact n0.tb l x hl z
  have R4 := R3.setO (i := j) n3 hr2 d2
  exact ⟨t, [.ref p, .ref r], rfl, ht, rfl, _, _, rfl, _, _, rfl, rfl, bb.nx _ F' H' _ R4 (e1.trans fr.fs.ff) (qx p qs)⟩
end
end DL
/-! DL: rows of one's own tables as values: the rows are frozen, the outer list stays one's own -/
namespace DL
open PySem PySem.Spec PyProof.Rows L2
section
variable {K : PySem.W.Frag} {G F F' H H' : Hp} {P : Option Addr} {σ : L2.St} {s : S}
theorem Rep.frzRows {i : Nat} {p : Addr} {qs : List Addr} {xss : List (List PyData)} (R : Rep K G P F H σ s) (h : s.e[i]? = some (.tb p qs xss)) :
    ∃ F', Same F F' ∧ Rep K G P F' H σ (s.put i (.o (xss.map .list))) ∧ DqA K F' (qs.map V.ref) (xss.map .list) := by
  have q0 := R.sl i _ h
  obtain ⟨h1, h2, h3, h4, h5, h6, h7⟩ := q0
  have np : p ∉ qs := (List.nodup_cons.mp h6).1
  obtain ⟨F2, a, b, c, d, dd⟩ := Rep.rowsD (F1 := F) h7 (Same.refl F) (List.nodup_cons.mp h6).2 (fun q hq => (h7.at' q hq).1) R.same
  have pF2 : F2 p = none := by rw [d p np]; exact h2
  have out : ∀ r, r ∉ p :: qs → F2 r = F r := fun r hr => d r fun z => hr (List.mem_cons_of_mem _ z)
  refine ⟨F2, a, ⟨b, R.keep, fun b' o g => ?_, fun j x hx => ?_, fun j k ys zs r hj hk e1 e2 => ?_, fun a' ha => ?_, by rw [R.len]; exact (List.length_set).symm, fun j k x y r hj hk hr jk oc => ?_, ⟨R.tab.1, R.tab.2.up a fun b o z => (dd b o z).elim (R.tab.2.2 b o) id⟩⟩, c⟩
  · rw [out b' (fun z => by
      obtain ⟨_, q2, _⟩ := tad_at (R.sl i _ h) z
      rw [q2] at g
      cases g)]
    exact R.apart b' o g
  · rcases set_get hx with ⟨rfl, rfl⟩ | ⟨ne, hx⟩
    · exact ⟨p, _, h1, pF2, h3, h4, h5, c⟩
    · have q := R.sl j x hx
      cases x with
      | un => exact True.intro
      | d x =>
        obtain ⟨v, g1, g2⟩ := q
        exact ⟨v, g1, g2.mono a⟩
      | o ys =>
        obtain ⟨p', vs', g1, g2, g3, g4, g5, g6⟩ := q
        exact ⟨p', vs', g1, by rw [out p' (fun z => R.tbs i j _ _ p' h hx z (Ne.symm ne) (occ_o rfl g1))]; exact g2, g3, g4, g5, g6.mono a⟩
      | pl => exact q
      | sc ns =>
        obtain ⟨u, g1, g2⟩ := q
        exact ⟨u, g1, a.seq g2⟩
      | tb p' qs' xss' => exact q.tbUp rfl a fun r o hr g1 g2 g3 g4 => ⟨by rw [out r (fun z => R.tbs i j _ _ r h hx z (Ne.symm ne) (.inl hr))]; exact g1, g2, g3, g4⟩
  · rcases set_get hj with ⟨e3, _⟩ | ⟨nj, hj⟩
    · rcases set_get hk with ⟨e4, _⟩ | ⟨nk, hk⟩
      · exact e3.trans e4.symm
      · rw [e3, h1] at e1
        cases e1
        exact (R.tbs i k _ _ p h hk List.mem_cons_self (Ne.symm nk) (occ_o rfl e2)).elim
    · rcases set_get hk with ⟨e4, _⟩ | ⟨nk, hk⟩
      · rw [e4, h1] at e2
        cases e2
        exact (R.tbs i j _ _ p h hj List.mem_cons_self (Ne.symm nj) (occ_o rfl e1)).elim
      · exact R.sep j k ys zs r hj hk e1 e2
  · obtain ⟨g1, g2, g3⟩ := R.pool a' ha
    exact ⟨by rw [out a' (fun z => (tad_at (R.sl i _ h) z).2.2.1 (by rw [ha]))]; exact g1, g2, g3⟩
  · rcases set_get hj with ⟨_, rfl⟩ | ⟨_, hj⟩
    · cases hr
    · rcases set_get hk with ⟨e4, e5⟩ | ⟨_, hk⟩
      · rcases oc with z | ⟨_, z⟩
        · rw [e5] at z
          cases z
        · rw [e4, h1] at z
          cases z
          rw [e4] at jk
          exact R.tbs j i x _ p hj h hr jk (.inl List.mem_cons_self)
      · exact R.tbs j k x y r hj hk hr jk oc
end
section
variable {X : Cx} {pos : Pos}
/-- x[k] of a table or a list of one's own, as a value -/
@[simp] def wRowV (i : Nat) (wk : DE) : DE := fun s Φ => match s.e[i]? with
  | some (.tb _ _ _) => wk s fun k s1 => s1.e[i]? = s.e[i]? ∧ match s1.e[i]?, k with
    | some (.tb _ _ xss), .int k => optP (atI (xss.map .list) k) fun x => Φ x (s1.put i (.o (xss.map .list)))
    | _, _ => False
  | some (.o _) => wk s fun k s1 => s1.e[i]? = s.e[i]? ∧ match s1.e[i]?, k with
    | some (.o xs), .int k => optP (atI xs k) fun x => Φ x s1
    | _, _ => False
  | _ => False
theorem xe_rowV {i : Nat} {x : Str} {xp : Pos} {a : Expr} {wa : DE} (hv : PE X (.Name x xp) (tVar i)) (ha : XE X a wa) (hsa : PlainIx a := by exact fun _ _ => rfl) :
    XE X (.Subscript (.Name x xp) a pos) (wRowV i wa) :=
  pe_imp (pe_ix ix_list hv ha hsa) fun σ H Q h => by
    obtain ⟨G, P, F, s, Φ, R, h, kk⟩ := h
    unfold wRowV at h
    cases hs : s.e[i]? with
    | none =>
      rw [hs] at h
      exact h.elim
    | some z =>
      rw [hs] at h
      cases z with
      | tb p qs xss =>
        refine ⟨_, (R.sl i _ hs).1, G, P, F, s, _, R, h, fun u F2 H2 s2 y R2 e2 d2 q2 => ?_⟩
        obtain ⟨es, q2⟩ := q2
        rw [es] at q2
        cases y with
        | int k =>
          obtain ⟨x, x1, q2⟩ := optP_of q2
          obtain ⟨F3, e3, R3, d3⟩ := R2.frzRows es
          have h5 := (R2.sl i _ es).2.2.2.2.1
          cases d2
          obtain ⟨v, z1, z2⟩ := atI_up d3 x1
          exact ⟨p, _, k, v, rfl, rfl, SqL.of h5, z1, kk v F3 H2 _ x R3 (e2.trans e3) z2 q2⟩
        | _ => exact q2.elim
      | o xs =>
        obtain ⟨p, vs, g1, g2, g3, g4, g5, g6⟩ := R.sl i _ hs
        refine ⟨_, g1, G, P, F, s, _, R, h, fun u F2 H2 s2 y R2 e2 d2 q2 => ?_⟩
        obtain ⟨es, q2⟩ := q2
        rw [es] at q2
        cases y with
        | int k =>
          obtain ⟨x, x1, q2⟩ := optP_of q2
          obtain ⟨p', vs', k1, k2, k3, k4, k5, k6⟩ := R2.sl i _ es
          rw [g1] at k1
          cases k1
          cases d2
          obtain ⟨v, z1, z2⟩ := atI_up k6 x1
          exact ⟨p, _, k, v, rfl, rfl, SqL.of k5, z1, kk v F2 H2 s2 x R2 e2 z2 q2⟩
        | _ => exact q2.elim
      | _ => exact h.elim
end
end DL
/-! DL: x, y = two new lists, both one's own -/
namespace DL
open PySem PySem.Spec PyProof.Rows L2
@[simp] def wParOO (i j : Nat) (w1 w2 : DA) : DS := fun Φ s => w1 s fun xs s1 => w2 s1 fun ys s2 => Φ.nx ((s2.put j (.o ys)).put i (.o xs))
theorem Nu.afterO {G F : Hp} {P : Option Addr} {σ : L2.St} {s : S} {p p2 : Addr} {j : Nat} {ys : List PyData} (n : Nu G P F σ s p) (ne : p ≠ p2) : Nu G P F (σ.set j (some (.ref p2))) (s.put j (.o ys)) p := by
  refine ⟨n.f, n.g, n.np, fun l xs hl z => ?_, fun l x hl z => ?_⟩
  · rcases set_get hl with ⟨e, _⟩ | ⟨nl, hl⟩
    · rw [e] at z
      by_cases hj : j < σ.length
      · rw [List.getElem?_set_self hj] at z
        cases z
        exact ne rfl
      · rw [List.getElem?_eq_none (by rw [List.length_set]; omega)] at z
        cases z
    · rw [List.getElem?_set_ne (Ne.symm nl)] at z
      exact n.sl l xs hl z
  · rcases set_get hl with ⟨_, e⟩ | ⟨nl, hl⟩
    · rw [e] at z
      cases z
    · exact n.tb l x hl z
theorem xs_parOO {X : Cx} {i j : Nat} {x y : Str} {a b : Expr} {w1 w2 : DA} {px py pt pos : Pos} {kt k2 : Nat} {pt2 : Pos} (hc : X.calm = true) (hN : X.N.Nodup) (hi : X.N[i]? = some x) (hj : X.N[j]? = some y) (hij : i ≠ j)
    (hx : X.env.scope.names.lookup x = some .local) (hy : X.env.scope.names.lookup y = some .local) (ha : XL X a w1) (hb : XL X b w2)
    (hw : swappedStores [.Tuple [.Name x px, .Name y py] kt pt] (.Tuple [a, b] k2 pt2) X.env = pure (some [x, y]))
    (he : starEach [a, b] X.env = (false, eval a X.env) :: starEach [b] X.env := by rfl) (he2 : starEach [b] X.env = (false, eval b X.env) :: starEach [] X.env := by rfl)
    (hsole : swapsWithSole [.Tuple [.Name x px, .Name y py] kt pt] (.Tuple [a, b] k2 pt2) pos.line X.env = pure false := by rfl) : XS X (.Assign [.Tuple [.Name x px, .Name y py] kt pt] (.Tuple [a, b] k2 pt2) pos) (wParOO i j w1 w2) :=
  ps_imp (ps_par hc hN hi hj hij hx hy (pa_cons ha (pa_cons hb pa_nil he2) he) hw hsole) fun D σ H h => by
    obtain ⟨G, P, F, s, Φ, R, h, b⟩ := h
    refine ⟨G, P, F, s, _, R, h, fun p1 vs1 F1 H1 s1 xs R1 e1 n1 hp1 d1 q => ?_⟩
    obtain ⟨G', eG, kG, R1'⟩ := R1.addGs (L := [p1]) (List.nodup_cons.mpr ⟨(fun z => by cases z), List.nodup_nil⟩) fun r hr => by
      rw [List.mem_singleton.mp hr]
      exact ⟨n1.f, n1.g, n1.np, ⟨_, hp1⟩, n1.sl, n1.tb⟩
    obtain ⟨o, g1, g2⟩ := kG p1 List.mem_cons_self
    rw [hp1] at g2
    cases g2
    refine ⟨G', P, F1, s1, _, R1', q, fun p2 vs F2 H2 s2 ys R2 e2 n hp2 d2 q2 => ⟨.ref p1, .ref p2, rfl, ?_⟩⟩
    have Rw := R2.weakG eG R.tab
    have ne : p1 ≠ p2 := fun z => by
      have := n.g
      rw [← z, g1] at this
      cases this
    have n1' : Nu G P F2 σ s2 p1 := by
      refine ⟨R2.apart _ _ g1, n1.g, n1.np, fun l zs hl z => ?_, fun l x hl z => ?_⟩
      · obtain ⟨p', vs', k1, k2, k3, _⟩ := R2.sl l _ hl
        rw [z] at k1
        cases k1
        rw [g1] at k3
        cases k3
      · have := (tad_at (R2.sl l x hl) z).2.1
        rw [g1] at this
        cases this
    have n2' : Nu G P F2 σ s2 p2 := ⟨n.f, eG.free n.g, n.np, n.sl, n.tb⟩
    rw [List.set_comm _ _ hij]
    exact b.nx _ F2 H2 _ ((Rw.setO (i := j) n2' hp2 d2).setO (i := i) (n1'.afterO ne) (R2.keep.go g1) (d1.mono e2)) (e1.trans e2) q2
end DL
/-! DL: one sign repeated -/
namespace DL
open PySem PySem.Spec PyProof.Rows L2
def repS (c : Nat) (k : Int) : Str := ⟨(List.replicate k.toNat c).toArray⟩
def rRepS : R2 := fun x y H Q => ∃ (c : Nat) (k : Int), x = .str ⟨#[c]⟩ ∧ y = .int k ∧ 0 ≤ k ∧ k ≤ 1000 ∧ Q (.str (repS c k)) H
theorem fold_rep (c : Nat) : ∀ (n : Nat) (acc : List Nat), (List.replicate n #[c]).foldl (· ++ ·) acc.toArray = (acc ++ List.replicate n c).toArray
  | 0, acc => by simp
  | n + 1, acc => by
    rw [List.replicate_succ, List.foldl_cons]
    have e : acc.toArray ++ #[c] = (acc ++ [c]).toArray := by simp
    rw [e, fold_rep c n (acc ++ [c]), List.append_assoc, List.replicate_succ]
    rfl
theorem op_repS {X : Cx} : OpR X (binaryOp .Mult) rRepS := by
  intro pins s σ H x y v u Q I rx ry h
  obtain ⟨c, k, rfl, rfl, k0, k1, q⟩ := h
  obtain ⟨t1, rfl⟩ := rx
  obtain ⟨t2, rfl⟩ := ry
  have out : ∀ (z : Str), z = repS c k → (Made.str z).post (EP X pins σ Q) s := fun z e => by
    subst e
    refine ⟨?_, .str (repS c k), H, I.tok _, ⟨_, rfl⟩, q⟩
    show ((List.replicate k.toNat c).toArray).size ≤ _
    rw [List.size_toArray, List.length_replicate]
    exact sz_le (by omega)
  refine P.mul_str (by simp; omega) (fun h1 _ => ?_) (fun h1 _ => ?_) ?_
  · have : (1 : Int) ≤ (2 ^ 63 - 1) / k := by
      rw [Int.le_ediv_iff_mul_le (by omega)]
      omega
    show ¬ ((1 : Int) > _)
    omega
  · show decide (1 * k.toNat > sizeLine) = false
    have := sz_le (n := 1 * k.toNat) (by omega)
    exact decide_eq_false (by omega)
  · split
    · rename_i h1
      refine out _ ?_
      have : k = 0 := by omega
      subst this
      rfl
    · split
      · rename_i h1 h2
        have : k = 1 := by
          have h2 : (k == 1 || (1 : Nat) == 0) = true := h2
          simpa using h2
        subst this
        exact ⟨.str ⟨#[c]⟩, H, I, ⟨_, rfl⟩, q⟩
      · refine out _ ?_
        have := fold_rep c k.toNat []
        rw [List.nil_append] at this
        exact congrArg Str.mk this
@[simp] def wRepS : W2 := fun x y Φ => ∃ (c : Nat) (k : Int), x = .str ⟨#[c]⟩ ∧ y = .int k ∧ (0 ≤ k ∧ k ≤ 1000) ∧ Φ (.str (repS c k))
theorem op2_repS {K : PySem.W.Frag} : Op2 K rRepS wRepS := ⟨fun {F H x y dx dy} Q Φ s d1 d2 w k => by
  obtain ⟨c, j, rfl, rfl, w1, w2⟩ := w
  cases d1
  cases d2
  exact ⟨c, j, rfl, rfl, w1.1, w1.2, k _ F H _ (Fresh.refl s) (.str _) w2⟩⟩
end DL
/-! DL: how defs stand whose body holds generator expressions, or that return a pair of new things -/
namespace DL
open PySem PySem.Spec PyProof.Rows L2
section
variable {P : Program} {w : World} {K : PySem.W.Frag} {mg : Str → Option Value} {base h : Heap} {k : Nat} {f : Addr} {fd : FuncData} {ps : List Str} {qual x : Str} {st : Stmt} {N : List Str}
theorem fn_DC {sp : DSp} (F : Fun K x qual st f fd) (Sc : FnScope N ps (defScope st)) (len : ∀ ds Φ, sp ds Φ → ds.length = ps.length)
    (hbody : ∀ (cdv : Value), fd.code = cdv → ∀ (A : Around) (outer : List Env) (s : Shared) (H : Hp) (E : XK), (A.deeper (envOfC qual (defScope st) s.heap.objs.size f cdv)).guards = some [] → Room k (A.deeper (envOfC qual (defScope st) s.heap.objs.size f cdv)) →
      ∃ wd, XSs (cxOf CX0 P w K mg base N qual (defScope st) f cdv A outer s H E).nox (defBody st) wd ∧ ∀ ds Φ, sp ds Φ → wd (endD Φ) ⟨startE N (ds.map .d), []⟩) : FnG P w K mg base CX0 (k + 1) f fd ps (spD K sp) := by
  refine fng_of F Sc (fun vs H Q E h => ?_) (fun cdv hc A outer s H vs Q E g hr h => ?_)
  · obtain ⟨F, ds, Φ, _, d, hs, _⟩ := h
    rw [d.length]
    exact len ds Φ hs
  · obtain ⟨wd, hX, hw⟩ := hbody cdv hc A outer s H E g hr
    refine ⟨_, hX.nox, ?_⟩
    obtain ⟨F, ds, Φ, e, d, hs, kk⟩ := h
    have fr : ∀ {σ' : L2.St} {F' H' : Hp} {s' : S}, Rep K (partH F H none) none F' H' σ' s' → Same F F' → Fresh F H F' H' := fun {σ' F' H' s'} R ee => fresh_of e R ee
    exact ⟨_, none, F, _, _, rep_startD e d [], hw ds Φ hs, fun σ' F' H' s' R ee q => kk _ F' H' .none (fr R ee) .non q, fun v σ' F' H' s' x R ee dx q => kk v F' H' x (fr R ee) dx q, fun _ _ _ _ _ _ q => q.elim, fun _ _ _ _ _ _ q => q.elim, fun _ _ _ _ _ _ _ _ _ _ _ _ q => q.elim, fun _ _ _ _ _ _ _ _ q => q.elim⟩
theorem caDC {sp : DSp} (hx : x ∈ tabNames) (D : CodeD K x st) (X : K.In h) (G : h.Ns mainGlobals mg) (Sc : FnScope N ps (defScope st)) (b : Bnd x st ps) (len : ∀ ds Φ, sp ds Φ → ds.length = ps.length)
    (body : ∀ (f : Addr) (cdv : Value) (T : Addr), CodeT K cdv T → ∀ (A : Around) (outer : List Env) (s : Shared) (H : Hp) (E : XK), (A.deeper (envOfC x (defScope st) s.heap.objs.size f cdv)).guards = some [] → Room k (A.deeper (envOfC x (defScope st) s.heap.objs.size f cdv)) →
      ∃ wd, XSs (cxOf CX0 P w K mg base N x (defScope st) f cdv A outer s H E).nox (defBody st) wd ∧ ∀ ds Φ, sp ds Φ → wd (endD Φ) ⟨startE N (ds.map .d), []⟩) : Ca P w K mg base (k + 1) x ps (spD K sp) := by
  obtain ⟨f, c, T, od, an, sl, oc, kV, dc, pm, ct, a, l, kc, kp, e⟩ := D.ex
  have F : Fun K x x st f (PySem.W.fnOf x x (defArgs st) (defBody st) (defScope st) .none kV dc pm an (.ref c) ct) := fun_mk l kc kp
  refine ⟨f, _, fn_DC F Sc len (fun cdv hc => ?_), PySem.W.mg_of X G a, kp, F.binds b⟩
  cases (show cdv = .ref c from hc.symm)
  exact body f _ T (codeT_of hx a l rfl rfl e)
theorem caT {sp : DSpT} {vs0 is : List Nat} {wi : DI} {wg : DG} {wt : DT} {wl w2 : DA} (D : DefK K x st) (X : K.In h) (G : h.Ns mainGlobals mg) (Sc : FnScope N ps (defScope st)) (b : Bnd x st ps) (len : ∀ ds Φ, sp ds Φ → ds.length = ps.length) (hsub : ∀ i ∈ is, i ∈ vs0)
    (body : ∀ (f : Addr) (cdv : Value) (A : Around) (outer : List Env) (s : Shared) (H : Hp) (E : XK), (A.deeper (envOfC x (defScope st) s.heap.objs.size f cdv)).guards = some [] → Room k (A.deeper (envOfC x (defScope st) s.heap.objs.size f cdv)) →
      PSs (cxOf CX0 P w K mg base N x (defScope st) f cdv A outer s H E).nox (defBody st) (tRet (tTup (tCons (tLc (tI K wi) (tG K is wg) (tT K wt) (tL K wl) vs0) (tCons (tL K w2) tNil)))))
    (hw : ∀ ds Φ, sp ds Φ → wLc vs0 wi wg wt (wFz wl) ⟨startE N (ds.map .d), []⟩ fun ys s1 => ∃ xss : List (List PyData), ys = xss.map .list ∧ w2 s1 fun zs _ => Φ xss zs) : Ca P w K mg base (k + 1) x ps (spT K sp) := by
  obtain ⟨f, od, an, sl, oc, kV, dc, pm, cd, ct, F, gm, kp⟩ := D.fn X G
  exact ⟨f, _, fn_T F Sc len hsub (body f) hw, gm, kp, F.binds b⟩
end
end DL
/-! DL: slices of tuples too, sums of any tuples -/
namespace DL
open PySem PySem.Spec PyProof.Rows L2
section
variable {X : Cx} {e : Expr} {lo hi : Option Expr} {p2 pos : Pos}
theorem cutD_whole {xs : List PyData} {l u : Option Int} (h : HT.sIx xs.length 0 l = 0 ∧ HT.sIx xs.length xs.length u = xs.length) : cutD xs l u = xs := by
  unfold cutD
  rw [h.1, h.2]
  simp
/-- a list's, a text's or a tuple's slice -/
@[simp] def wSlA (w : DE) (wl wh : DO) : DE := fun s Φ => w s fun x s1 => wl s1 fun l s2 => wh s2 fun u s3 => match x with
  | .list xs => Φ (.list (cutD xs l u)) s3
  | .str z => z.length ≤ sizeLine ∧ Φ (.str (cutS z l u)) s3
  | .tuple xs => Φ (.tuple (cutD xs l u)) s3
  | _ => False
theorem xe_sliceA {w : DE} {wl wh : DO} (he : XE X e w) (hl : XO X lo wl) (hh : XO X hi wh) : XE X (.Subscript e (.Slice lo hi none p2) pos) (wSlA w wl wh) := pe_imp (pe_slice ((sl_list.or sl_str).or sl_tupA) he hl hh) fun σ H Q h => by
  obtain ⟨G, P, F, s, Φ, R, h, k⟩ := h
  refine ⟨G, P, F, s, _, R, h, fun v F1 H1 s1 x R1 e1 d1 q => ⟨G, P, F1, s1, _, R1, q, fun l F2 H2 s2 R2 e2 q2 => ⟨G, P, F2, s2, _, R2, q2, fun u F3 H3 s3 R3 e3 q3 => ?_⟩⟩⟩
  cases x with
  | list xs =>
    cases d1.mono (e2.trans e3) with
    | @lst a0 vs0 _ h1 h2 =>
      refine .inl (.inl ⟨_, _, rfl, SqL.of (R3.same _ _ h1), fun p hp => ?_⟩)
      have f := Fresh.new (o := .lst (cutV vs0 l u)) R3.same hp
      exact k _ _ _ s3 _ (R3.fresh f) (((e1.trans e2).trans e3).trans f.ff) (.lst upd_same ((cutD_up h2 l u).mono f.ff)) q3
  | str z =>
    cases d1
    exact .inl (.inr ⟨z, rfl, q3.1, k _ F3 H3 s3 _ R3 ((e1.trans e2).trans e3) (.str _) q3.2⟩)
  | tuple xs =>
    cases d1.mono (e2.trans e3) with
    | @tup a0 vs0 _ h1 h2 =>
      have hlen := h2.length
      refine .inr ⟨_, _, rfl, same_sqt R3.same h1, fun hw => ?_, fun hw p hp => ?_⟩
      · rw [hlen] at hw
        have q3 : Φ (.tuple (cutD xs l u)) s3 := q3
        rw [cutD_whole hw] at q3
        exact k _ F3 H3 s3 _ R3 ((e1.trans e2).trans e3) (.tup h1 h2) q3
      · have f := Fresh.new (o := .tup (cutV vs0 l u)) R3.same hp
        exact k _ _ _ s3 _ (R3.fresh f) (((e1.trans e2).trans e3).trans f.ff) (.tup (SqT.of upd_same) ((cutD_up h2 l u).mono f.ff)) q3
  | _ => exact q3.elim
end
/-- t + u of any tuples -/
@[simp] def wCatA : W2 := fun x y Φ => match x, y with
  | .tuple a, .tuple b => a.length + b.length ≤ sizeLine ∧ Φ (.tuple (a ++ b))
  | _, _ => False
theorem op2_catA {K : PySem.W.Frag} : Op2 K (rCatA K) wCatA := ⟨fun {F H x y dx dy} Q Φ s d1 d2 w k => by
  cases dx with
  | tuple a =>
    cases dy with
    | tuple b =>
      cases d1 with
      | @tup p1 vs1 _ h1 h2 =>
        cases d2 with
        | @tup p2 vs2 _ g1 g2 =>
          refine ⟨_, _, _, _, rfl, rfl, same_sqt s h1, same_sqt s g1, by rw [h2.length, g2.length]; exact w.1, fun z => ?_, fun z1 z2 => ?_, fun z1 z2 p hp => ?_⟩
          · subst z
            cases h2
            exact k _ F H _ (Fresh.refl s) (.tup g1 g2) w.2
          · subst z2
            cases g2
            have w2 := w.2
            rw [List.append_nil] at w2
            exact k _ F H _ (Fresh.refl s) (.tup h1 h2) w2
          · have f := Fresh.new (o := .tup (vs1 ++ vs2)) s hp
            exact k _ _ _ _ f (.tup (SqT.of upd_same) ((h2.append g2).mono f.ff)) w.2
    | _ => exact w.elim
  | _ => exact w.elim⟩
end DL
/-! DL: e[::-1] of lists and tuples -/
namespace DL
open PySem PySem.Spec PyProof.Rows L2 HT
section
variable {prog : Program} {w : World} {A : Around} {E : Value → Shared → Prop} {s : Shared}
theorem places_rev (n : Nat) : Builtin.Slice.slicePlaces ((n : Int) - 1) (-1) (-1) = n := by
  unfold Builtin.Slice.slicePlaces
  have h1 : ¬ ((-1 : Int) > 0) := by decide
  by_cases h : (n : Int) - 1 > -1
  · simp only [h1, if_false, h, if_true]
    rw [show (- -1 : Int) = 1 by decide, Int.ediv_one]
    omega
  · simp only [h1, if_false, h]
    omega
theorem sliceApplied_rev {sl : Addr} {vs : Value} {n : Nat} {Q : Int × Int × Nat → Shared → Prop} (hs : s.heap.IsSliceOf sl .none .none vs) (ps : IsPart vs (some (-1)))
    (h : Q ((n : Int) - 1, -1, n) s) : wpAny (model prog w) A (Builtin.Slice.sliceApplied (.ref sl) (pure (n : Int))) Q E s := by
  obtain ⟨os, hos, hcs, hds⟩ := id hs
  unfold Builtin.Slice.sliceApplied Builtin.Slice.sliceFields
  refine wpAny_bind (wpAny_bind (wpAny_field hos hds (x := .none) rfl (wpAny_bind (wpAny_field hos hds (x := .none) rfl (wpAny_bind (wpAny_field hos hds (x := vs) rfl (wpAny_pure ?_)))))))
  refine wpAny_bind (HT.slicePart_ ps ?_)
  show wpAny _ _ (if ((-1 : Int) == 0) = true then _ else _) _ _ s
  rw [if_neg (by decide)]
  refine wpAny_bind (HT.slicePart_ .none (wpAny_bind (HT.slicePart_ .none (wpAny_bind (wpAny_pure ?_)))))
  show wpAny _ _ (pure ((n : Int) - 1, (-1 : Int), Builtin.Slice.slicePlaces ((n : Int) - 1) (-1) (-1))) _ _ s
  rw [places_rev]
  exact wpAny_pure h
theorem fm_congr {α β : Type} {f g : α → Option β} : ∀ (l : List α), (∀ a ∈ l, f a = g a) → l.filterMap f = l.filterMap g
  | [], _ => rfl
  | a :: l, h => by
    rw [List.filterMap_cons, List.filterMap_cons, h a (List.mem_cons_self ..), fm_congr l fun b hb => h b (List.mem_cons_of_mem _ hb)]
theorem pick_rev (xs : Array Value) : ((List.range xs.size).filterMap fun (m : Nat) => xs[((xs.size : Int) - 1 + (m : Int) * (-1)).toNat]?).toArray = xs.toList.reverse.toArray := by
  have e : (List.range xs.size).filterMap (fun (m : Nat) => xs[((xs.size : Int) - 1 + (m : Int) * (-1)).toNat]?) = ((List.range xs.size).map fun k => xs.size - 1 - k).filterMap (xs[·]?) := by
    rw [List.filterMap_map]
    refine fm_congr _ fun m hm => ?_
    have := List.mem_range.mp hm
    have e : ((xs.size : Int) - 1 + (m : Int) * (-1)).toNat = xs.size - 1 - m := by omega
    rw [e]
    rfl
  rw [e, PySem.W.krv_range, List.filterMap_reverse, PySem.W.krv_all]
theorem getItem_tuple_rev {t sl : Addr} {items : Array Value} {vs : Value} {Q : Value → Shared → Prop} (ht : IsTup s.heap t items) (hs : s.heap.IsSliceOf sl .none .none vs) (ps : IsPart vs (some (-1)))
    (h : Q (.ref s.heap.objs.size) { s with heap := s.heap.push { cls := .type "tuple", data := .seq items.toList.reverse.toArray } })
    (hsz : items.size ≤ sizeLine) : wpAny (model prog w) A (getItem (.ref t) (.ref sl)) Q E s := by
  have htake : sizeOk (.seq items.toList.reverse.toArray) := by
    show items.toList.reverse.toArray.size ≤ sizeLine
    rw [List.size_toArray, List.length_reverse, Array.length_toList]
    exact hsz
  obtain ⟨os, hos, hcs, hds⟩ := id hs
  have hTs : s.TypeIs (.ref sl) "slice" := ⟨os, hos, hcs⟩
  unfold getItem
  try with_reducible refine wpAny_holding ?_
  first | refine wpAny_bind (wpAny_pure ?_) | skip
  refine wpAny_bind (wpAny_sequenceKey ht.typeIs (by decide) ?_)
  refine wpAny_bind (wpAny_callSpecial?_slot (name := Str.ofString "__getitem__") ht.typeIs PyProof.Rows.slot_tuple_getitem
    (wpAny_call_entry PyProof.Rows.slot_tuple_getitem ht.typeIs entry_tuple_getitem ?_ (args_tuple_getitem _ _)))
  show wpAny _ _ (Builtin.Tuple.tupleItemsOf (.ref t) >>= _) _ _ s
  refine wpAny_bind (tupleItemsOf_ ht ?_)
  refine wpAny_bind (wpAny_typeOf hTs ?_)
  rw [if_pos (by decide)]
  refine wpAny_bind (sliceApplied_rev hs ps ?_)
  have hno : ¬ (((items.size : Int) - 1 == 0 && (-1 : Int) == 1 && items.size == items.size) = true) := by
    intro q
    rw [Bool.and_eq_true, Bool.and_eq_true] at q
    exact absurd q.1.2 (by decide)
  show wpAny _ _ (if ((items.size : Int) - 1 == 0 && (-1 : Int) == 1 && items.size == items.size) = true then _ else _) _ _ s
  rw [if_neg hno, pick_rev]
  first
    | exact wpAny_bind (m := Builtin.Tuple.tupleExact _) (wpAny_newObj_type (wpAny_pure ⟨_, rfl, wpAny_pure h⟩) htake)
    | exact wpAny_bind (m := Builtin.Tuple.tupleExact _) (wpAny_newObj_type (wpAny_bind (wpAny_pure (wpAny_pure ⟨_, rfl, wpAny_pure h⟩))) htake)
    | exact wpAny_bind (wpAny_bind (m := Builtin.Tuple.tupleExact _) (wpAny_newObj_type (wpAny_pure (wpAny_pure ⟨_, rfl, wpAny_pure h⟩)) htake))
    | exact wpAny_bind (wpAny_bind (m := Builtin.Tuple.tupleExact _) (wpAny_newObj_type (wpAny_pure ⟨_, rfl, wpAny_pure h⟩) htake))
end
section
variable {X : Cx} {e : Expr} {te : TE} {st : Expr} {ts : TO} {pos p2 : Pos}
/-- what a value reversed is, by values: the slice object stands at sl -/
def RvR (X : Cx) (r : V → Hp → VK → Prop) : Prop :=
  ∀ (pins : List (Addr × Obj)) (s : Shared) (σ : L2.St) (H : Hp) (x : V) (v vs : Value) (sl : Addr) (Q : VK), Inv X pins σ H s → RelV x v → s.heap.IsSliceOf sl .none .none vs → IsPart vs (some (-1)) → r x H Q →
    ∃ T id, typeLookup (.type T) "__getitem__" = pure (some (.builtin id)) ∧ s.TypeIs v T ∧ wpAny (model X.prog X.w) X.A (getItem v (.ref sl)) (EP X pins σ Q) X.xe s
theorem RvR.or {r r' : V → Hp → VK → Prop} (h : RvR X r) (h' : RvR X r') : RvR X (fun x H Q => r x H Q ∨ r' x H Q) := by
  intro pins s σ H x v vs sl Q I rx hs ps q
  rcases q with q | q
  · exact h pins s σ H x v vs sl Q I rx hs ps q
  · exact h' pins s σ H x v vs sl Q I rx hs ps q
def tRv (r : V → Hp → VK → Prop) (te : TE) (ts : TO) : TE := fun σ H Q => te σ H fun x H1 => ts σ H1 fun l H2 => l = some (-1) ∧ r x H2 Q
theorem pe_rev {r : V → Hp → VK → Prop} (hr : RvR X r) (he : PE X e te) (hs : PO X (some st) ts) : PE X (.Subscript e (.Slice none none (some st) p2) pos) (tRv r te ts) := by
  refine ⟨fun pins s σ H Q I h => ?_⟩
  refine Subscript_ (thn (he.run pins s σ H _ I h) fun v s1 ⟨x, H1, I1, r1, q1⟩ => ?_)
  refine wpAny_Slice ?_
  rw [evalPart_none]
  refine wpAny_pure (wpAny_pure ?_)
  refine thn (hs.run pins s1 σ H1 _ I1 q1) fun vs s3 ⟨l, H3, I3, ps, e3, q3⟩ => ?_
  subst e3
  have I4 : Inv X pins σ H3 { s3 with heap := s3.heap.push { cls := .type "slice", data := .fields #[.none, .none, vs] } } := I3.kept (t' := s3.toks) fun b ob q => Heap.get?_push_of_some _ q
  obtain ⟨T, id, hT, ht, hg⟩ := hr pins { s3 with heap := s3.heap.push { cls := .type "slice", data := .fields #[.none, .none, vs] } } σ H3 x v vs s3.heap.objs.size Q I4 r1 (Heap.IsSliceOf.new ..) ps q3
  show wpAny (model X.prog X.w) X.A (subscriptTail e (.Slice none none (some st) p2) v (.ref s3.heap.objs.size)) (EP X pins σ Q) X.xe { s3 with heap := s3.heap.push { cls := .type "slice", data := .fields #[.none, .none, vs] } }
  exact tail_any (ops := [v, .ref s3.heap.objs.size]) ht hT hg (by with_unfolding_all rfl)
def rRvL (K : PySem.W.Frag) : V → Hp → VK → Prop := fun x H Q => ∃ a xs, x = .ref a ∧ SqL K H a xs ∧ ∀ p, H p = none → Q (.ref p) (upd H p (.lst xs.reverse))
theorem vals_rev {xs : List V} {its : List Value} (r : Vals xs its) : Vals xs.reverse its.reverse := by
  induction r with
  | nil => exact .nil
  | cons r1 r2 ih =>
    rw [List.reverse_cons, List.reverse_cons]
    exact ih.append (.cons r1 .nil)
theorem rv_list : RvR X (rRvL X.K) := by
  intro pins s σ H x v vs sl Q I rx hs ps h
  obtain ⟨a, xs, rfl, hx, q⟩ := h
  cases rx
  obtain ⟨its, r, ht, hz⟩ := I.list hx
  have hlen := r.length
  refine ⟨"list", _, slot_list_getitem.lookup, ht.isList.typeIs, ?_⟩
  refine wpAny_getItem_list_slice ht.isList hs .none .none ps (by decide) ?_ (by rw [List.size_toArray] <;> omega)
  rw [PySem.W.krv_pick]
  refine ⟨.ref s.heap.objs.size, _, I.laid (t' := s.toks) (o := .lst xs.reverse) (fun b ob q => Heap.get?_push_of_some _ q) (Nat.le_refl _) ?_, rfl, q _ (I.hok.fresh (Nat.le_refl _))⟩
  exact ⟨by rw [List.length_reverse]; exact hz, _, 0, vals_rev r, Heap.get?_push_size _ rfl⟩
def rRvT (K : PySem.W.Frag) : V → Hp → VK → Prop := fun x H Q => ∃ a xs, x = .ref a ∧ SqT K H a xs ∧ ∀ p, H p = none → Q (.ref p) (upd H p (.tup xs.reverse))
theorem rv_tup : RvR X (rRvT X.K) := by
  intro pins s σ H x v vs sl Q I rx hs ps h
  obtain ⟨a, xs, rfl, hx, q⟩ := h
  cases rx
  obtain ⟨its, r, ht, hz⟩ := I.tuple hx
  have hlen : its.toArray.size = xs.length := by rw [List.size_toArray]; exact r.length.symm
  refine ⟨"tuple", _, PyProof.Rows.slot_tuple_getitem.lookup, ht.typeIs, ?_⟩
  refine getItem_tuple_rev ht hs ps ?_ (by rw [hlen]; exact hz)
  refine ⟨.ref s.heap.objs.size, _, I.laid (t' := s.toks) (o := .tup xs.reverse) (fun b ob q => Heap.get?_push_of_some _ q) (Nat.le_refl _) ?_, rfl, q _ (I.hok.fresh (Nat.le_refl _))⟩
  exact ⟨by rw [List.length_reverse]; exact hz, _, vals_rev r, IsTup.new _ _⟩
/-- e[::-1] of a list or a tuple -/
@[simp] def wRv (w : DE) (wl : DO) : DE := fun s Φ => w s fun x s1 => wl s1 fun l s2 => match x with
  | .list xs => l = some (-1) ∧ Φ (.list xs.reverse) s2
  | .tuple xs => l = some (-1) ∧ Φ (.tuple xs.reverse) s2
  | _ => False
theorem xe_rev {w : DE} {wl : DO} (he : XE X e w) (hl : XO X (some st) wl) : XE X (.Subscript e (.Slice none none (some st) p2) pos) (wRv w wl) := pe_imp (pe_rev (rv_list.or rv_tup) he hl) fun σ H Q h => by
  obtain ⟨G, P, F, s, Φ, R, h, k⟩ := h
  refine ⟨G, P, F, s, _, R, h, fun v F1 H1 s1 x R1 e1 d1 q => ⟨G, P, F1, s1, _, R1, q, fun l F2 H2 s2 R2 e2 q2 => ?_⟩⟩
  cases x with
  | list xs =>
    cases d1.mono e2 with
    | @lst a0 vs0 _ h1 h2 =>
      refine ⟨q2.1, .inl ⟨_, _, rfl, SqL.of (R2.same _ _ h1), fun p hp => ?_⟩⟩
      have f := Fresh.new (o := .lst vs0.reverse) R2.same hp
      exact k _ _ _ s2 _ (R2.fresh f) ((e1.trans e2).trans f.ff) (.lst upd_same ((dqa_rev h2).mono f.ff)) q2.2
  | tuple xs =>
    cases d1.mono e2 with
    | @tup a0 vs0 _ h1 h2 =>
      refine ⟨q2.1, .inr ⟨_, _, rfl, same_sqt R2.same h1, fun p hp => ?_⟩⟩
      have f := Fresh.new (o := .tup vs0.reverse) R2.same hp
      exact k _ _ _ s2 _ (R2.fresh f) ((e1.trans e2).trans f.ff) (.tup (SqT.of upd_same) ((dqa_rev h2).mono f.ff)) q2.2
  | _ => exact q2.elim
/-- e[::-1] of a list: a new list -/
@[simp] def wRvL (w : DE) (wl : DO) : DA := fun s Φ => w s fun x s1 => wl s1 fun l s2 => match x with
  | .list xs => l = some (-1) ∧ Φ xs.reverse s2
  | _ => False
theorem xl_rev {w : DE} {wl : DO} (he : XE X e w) (hl : XO X (some st) wl) : XL X (.Subscript e (.Slice none none (some st) p2) pos) (wRvL w wl) := pe_imp (pe_rev rv_list he hl) fun σ H Q h => by
  obtain ⟨G, P, F, s, Φ, R, h, k⟩ := h
  refine ⟨G, P, F, s, _, R, h, fun v F1 H1 s1 x R1 e1 d1 q => ⟨G, P, F1, s1, _, R1, q, fun l F2 H2 s2 R2 e2 q2 => ?_⟩⟩
  cases x with
  | list xs =>
    cases d1.mono e2 with
    | lst h1 h2 =>
      refine ⟨q2.1, _, _, rfl, SqL.of (R2.same _ _ h1), fun p hp => ?_⟩
      obtain ⟨R4, n⟩ := nu_new (o := .lst (List.reverse _)) R2 hp
      exact k p _ F2 _ s2 _ R4 (e1.trans e2) n upd_same (dqa_rev h2) q2.2
  | _ => exact q2.elim
end
end DL
/-! DL: + with tuples that may be empty -/
namespace DL
open PySem PySem.Spec PyProof.Rows L2
def rPlusT (K : PySem.W.Frag) : R2 := rOr (rCatA K) (rPlus K)
/-- + of numbers, texts, lists and any tuples -/
@[simp] def wAddT : W2 := fun x y Φ => match x with
  | .tuple a => (match y with
    | .tuple b => a.length + b.length ≤ sizeLine ∧ Φ (.tuple (a ++ b))
    | _ => False)
  | _ => wAdd x y Φ
theorem opr_plusT {X : Cx} : OpR X (binaryOp .Add) (rPlusT X.K) := opr_or op_catA opr_plus
theorem op2_plusT {K : PySem.W.Frag} : Op2 K (rPlusT K) wAddT := ⟨fun {F H x y dx dy} Q Φ s d1 d2 w k => by
  cases dx with
  | tuple a =>
    cases dy with
    | tuple b => exact .inl (op2_catA.run Q Φ s d1 d2 w k)
    | _ => exact w.elim
  | _ => exact .inr (op2_plus.run Q Φ s d1 d2 w k)⟩
end DL
/-! DL: repr of any value; two defs that call one another, by a measure -/
namespace DL
open PySem PySem.Spec PyProof.Rows L2
section
variable {X : Cx} {K : PySem.W.Frag}
@[simp] def gReprA : PyData → (PyData → Prop) → Prop := fun x Φ => x.showable = true ∧ x.hasDict = false ∧ x.depth ≤ 60 ∧ x.shown.length ≤ sizeLine ∧ (∀ i, x = .int i → i.natAbs.log2 < 1920) ∧ Φ (.str x.shown)
def rReprA (K : PySem.W.Frag) : List V → Hp → VK → Prop := fun xs H Q => (∃ a d, xs = [.ref a] ∧ Dp K H (.ref a) d ∧ d.showable = true ∧ d.hasDict = false ∧ d.depth ≤ 60 ∧ d.shown.length ≤ sizeLine ∧ Q (.str d.shown) H) ∨
  (∃ i : Int, xs = [.int i] ∧ i.natAbs.log2 < 1920 ∧ Q (.str (toString i)) H) ∨ (∃ z, xs = [.str z] ∧ (reprText z).length ≤ sizeLine ∧ Q (.str (reprText z)) H) ∨ (∃ b : Bool, xs = [.bl b] ∧ Q (.str (if b then "True" else "False")) H) ∨ (xs = [.non] ∧ Q (.str "None") H)
theorem call_reprA {k : Nat} (hgd : X.A.guards = some []) (hr : Room k X.A) : CallR X (.builtin "repr") (rReprA X.K) := by
  intro pins s σ H xs us Q I r h
  rcases h with h | ⟨i, rfl, hz, q⟩ | ⟨z, rfl, hz, q⟩ | ⟨b, rfl, q⟩ | ⟨rfl, q⟩
  · exact call_repr hgd hr pins s σ H xs us Q I r h
  · obtain ⟨u, rfl, t, rfl⟩ := vals1 r
    exact PySem.P.repr_of_int hz ⟨.str _, H, I.tok _, ⟨_, rfl⟩, q⟩
  · obtain ⟨u, rfl, t, rfl⟩ := vals1 r
    exact PySem.P.repr_of_str (hsz := hz) ⟨.str _, H, I.tok _, ⟨_, rfl⟩, q⟩
  · obtain ⟨u, rfl, rfl⟩ := vals1 r
    exact PySem.P.repr_of_bool ⟨.str _, H, I.tok _, ⟨_, rfl⟩, q⟩
  · obtain ⟨u, rfl, rfl⟩ := vals1 r
    exact PySem.P.repr_of_none ⟨.str _, H, I.tok _, ⟨_, rfl⟩, q⟩
theorem opn_reprA : OpN K (rReprA K) (wN1 gReprA) := opN1 fun F H v x Q Φ s d w k => by
  obtain ⟨w1, w2, w3, w4, w6, w5⟩ := w
  have d0 := (d.mono s).dp w2
  cases d with
  | lst h1 h2 => exact .inl ⟨_, _, rfl, d0, w1, w2, w3, w4, k _ F H _ (Fresh.refl s) (.str _) w5⟩
  | tup h1 h2 => exact .inl ⟨_, _, rfl, d0, w1, w2, w3, w4, k _ F H _ (Fresh.refl s) (.str _) w5⟩
  | int i => exact .inr (.inl ⟨i, rfl, w6 i rfl, k _ F H _ (Fresh.refl s) (.str _) (by rw [PyData.shown_int] at w5; exact w5)⟩)
  | str z => exact .inr (.inr (.inl ⟨z, rfl, w4, k _ F H _ (Fresh.refl s) (.str _) w5⟩))
  | bl b => exact .inr (.inr (.inr (.inl ⟨b, rfl, k _ F H _ (Fresh.refl s) (.str _) (by rw [PyData.shown_bool] at w5; exact w5)⟩)))
  | non => exact .inr (.inr (.inr (.inr ⟨rfl, k _ F H _ (Fresh.refl s) (.str _) (by rw [PyData.shown_none] at w5; exact w5)⟩)))
  | rng h => cases w2
  | er a => cases w2
  | xo _ _ _ _ => cases w2
  | ef _ _ => cases w2
  | dk _ _ => cases w2
end
/-! by a measure -/
section
variable {P : Program} {w : World} {K : PySem.W.Frag} {mg : Str → Option Value} {base h : Heap} {k : Nat} {ps N : List Str} {x : Str} {st : Stmt}
/-- a def that stands, whatever it promises: B says what its body must do -/
structure Std (P : Program) (w : World) (K : PySem.W.Frag) (mg : Str → Option Value) (base : Heap) (x : Str) (ps : List Str) (α : Type) (S : α → Sp) (B : Nat → α → Prop) : Prop where
  ex : ∃ f fd, mg x = some (.ref f) ∧ PySem.W.keepIn K (.ref f) = true ∧ Binds K fd ps [] ∧ ∀ k sp, B k sp → FnG P w K mg base CX0 (k + 1) f fd ps (S sp)
/-- what a def of plain values must do -/
structure BodD (P : Program) (w : World) (K : PySem.W.Frag) (mg : Str → Option Value) (base : Heap) (N : List Str) (x : Str) (st : Stmt) (ps : List Str) (k : Nat) (sp : DSp) : Prop where
  len : ∀ ds Φ, sp ds Φ → ds.length = ps.length
  body : Bdy P w K mg base k N x st fun wd => ∀ ds Φ, sp ds Φ → wd (endD Φ) ⟨startE N (ds.map .d), []⟩
structure BodP (P : Program) (w : World) (K : PySem.W.Frag) (mg : Str → Option Value) (base : Heap) (N : List Str) (x : Str) (st : Stmt) (ps : List Str) (k : Nat) (sp : DSpP) : Prop where
  len : ∀ ds q Φ, sp ds q Φ → ds.length + 1 = ps.length
  body : Bdy P w K mg base k N x st fun wd => ∀ ds q Φ, sp ds q Φ → wd (endP Φ) ⟨startE N (.pl :: ds.map .d), q⟩
structure BodC (P : Program) (w : World) (K : PySem.W.Frag) (mg : Str → Option Value) (base : Heap) (N : List Str) (x : Str) (st : Stmt) (ps : List Str) (k : Nat) (sp : DSp) : Prop where
  len : ∀ ds Φ, sp ds Φ → ds.length = ps.length
  body : ∀ (f : Addr) (cdv : Value) (T : Addr), CodeT K cdv T → ∀ (A : Around) (outer : List Env) (s : Shared) (H : Hp) (E : XK), (A.deeper (envOfC x (defScope st) s.heap.objs.size f cdv)).guards = some [] → Room k (A.deeper (envOfC x (defScope st) s.heap.objs.size f cdv)) →
      ∃ wd, XSs (cxOf CX0 P w K mg base N x (defScope st) f cdv A outer s H E).nox (defBody st) wd ∧ ∀ ds Φ, sp ds Φ → wd (endD Φ) ⟨startE N (ds.map .d), []⟩
theorem stdD (D : DefK K x st) (X : K.In h) (G : h.Ns mainGlobals mg) (Sc : FnScope N ps (defScope st)) (b : Bnd x st ps) : Std P w K mg base x ps DSp (spD K) (BodD P w K mg base N x st ps) := by
  obtain ⟨f, od, an, sl, oc, kV, dc, pm, cd, ct, F, gm, kp⟩ := D.fn X G
  exact ⟨f, _, gm, kp, F.binds b, fun k sp B => fn_D F Sc B.len (B.body f)⟩
theorem stdP (D : DefK K x st) (X : K.In h) (G : h.Ns mainGlobals mg) (Sc : FnScope N ps (defScope st)) (b : Bnd x st ps) : Std P w K mg base x ps DSpP (spP K) (BodP P w K mg base N x st ps) := by
  obtain ⟨f, od, an, sl, oc, kV, dc, pm, cd, ct, F, gm, kp⟩ := D.fn X G
  exact ⟨f, _, gm, kp, F.binds b, fun k sp B => fn_P F Sc B.len (B.body f)⟩
theorem stdC (hx : x ∈ tabNames) (D : CodeD K x st) (X : K.In h) (G : h.Ns mainGlobals mg) (Sc : FnScope N ps (defScope st)) (b : Bnd x st ps) : Std P w K mg base x ps DSp (spD K) (BodC P w K mg base N x st ps) := by
  obtain ⟨f, c, T, od, an, sl, oc, kV, dc, pm, ct, a, l, kc, kp, e⟩ := D.ex
  have F : Fun K x x st f (PySem.W.fnOf x x (defArgs st) (defBody st) (defScope st) .none kV dc pm an (.ref c) ct) := fun_mk l kc kp
  refine ⟨f, _, PySem.W.mg_of X G a, kp, F.binds b, fun k sp B => fn_DC F Sc B.len (fun cdv hc => ?_)⟩
  cases (show cdv = .ref c from hc.symm)
  exact B.body f _ T (codeT_of hx a l rfl rfl e)
/-- what is promised below n -/
def ltD (sp : Nat → DSp) (n : Nat) : DSp := fun ds Φ => ∃ m, m < n ∧ sp m ds Φ
def ltP (sp : Nat → DSpP) (n : Nat) : DSpP := fun ds q Φ => ∃ m, m < n ∧ sp m ds q Φ
theorem fng_ltD {f : Addr} {fd : FuncData} {sp : Nat → DSp} {n : Nat} (h : ∀ m, m < n → FnG P w K mg base CX0 k f fd ps (spD K (sp m))) : FnG P w K mg base CX0 k f fd ps (spD K (ltD sp n)) := by
  cases n with
  | zero =>
    have e : ltD sp 0 = fun _ _ => False := by
      funext ds Φ
      exact propext ⟨fun ⟨m, hm, _⟩ => absurd hm (Nat.not_lt_zero m), False.elim⟩
    rw [e]
    exact fng_noD
  | succ n => exact fng_unionD (n := n) (fun d hd => h d (by omega)) fun ds Φ ⟨m, hm, q⟩ => ⟨m, by omega, q⟩
theorem fng_ltP {f : Addr} {fd : FuncData} {sp : Nat → DSpP} {n : Nat} (h : ∀ m, m < n → FnG P w K mg base CX0 k f fd ps (spP K (sp m))) : FnG P w K mg base CX0 k f fd ps (spP K (ltP sp n)) := by
  cases n with
  | zero =>
    have e : ltP sp 0 = fun _ _ _ => False := by
      funext ds q Φ
      exact propext ⟨fun ⟨m, hm, _⟩ => absurd hm (Nat.not_lt_zero m), False.elim⟩
    rw [e]
    exact fng_noP
  | succ n => exact fng_unionP (n := n) (fun d hd => h d (by omega)) fun ds q Φ ⟨m, hm, r⟩ => ⟨m, by omega, r⟩
theorem caMutD {x1 x2 : Str} {ps1 ps2 : List Str} {B1 B2 : Nat → DSp → Prop} {sp1 sp2 : Nat → DSp} {U1 U2 : DSp} {n k0 : Nat} (c : Nat) (hc : c ≤ k0 + 1) (s1 : Std P w K mg base x1 ps1 DSp (spD K) B1) (s2 : Std P w K mg base x2 ps2 DSp (spD K) B2)
    (h1 : ∀ ds Φ, U1 ds Φ → ∃ d, d ≤ n ∧ sp1 d ds Φ) (h2 : ∀ ds Φ, U2 ds Φ → ∃ d, d ≤ n ∧ sp2 d ds Φ)
    (body : ∀ (d l : Nat), l + c ≤ k0 + c * d + 1 → Ca P w K mg base l x1 ps1 (spD K (ltD sp1 d)) → Ca P w K mg base l x2 ps2 (spD K (ltD sp2 d)) → B1 (k0 + c * d) (sp1 d) ∧ B2 (k0 + c * d) (sp2 d)) :
    Ca P w K mg base (k0 + c * n + 1) x1 ps1 (spD K U1) ∧ Ca P w K mg base (k0 + c * n + 1) x2 ps2 (spD K U2) := by
  obtain ⟨f1, fd1, a1, b1, c1, g1⟩ := s1.ex
  obtain ⟨f2, fd2, a2, b2, c2, g2⟩ := s2.ex
  have go : ∀ d, (∀ m, m < d → FnG P w K mg base CX0 (k0 + c * m + 1) f1 fd1 ps1 (spD K (sp1 m))) ∧ ∀ m, m < d → FnG P w K mg base CX0 (k0 + c * m + 1) f2 fd2 ps2 (spD K (sp2 m)) := by
    intro d
    induction d with
    | zero => exact ⟨fun m hm => absurd hm (Nat.not_lt_zero m), fun m hm => absurd hm (Nat.not_lt_zero m)⟩
    | succ d ih =>
      have r : B1 (k0 + c * d) (sp1 d) ∧ B2 (k0 + c * d) (sp2 d) := by
        cases d with
        | zero => exact body 0 0 (by omega) ⟨f1, _, fng_ltD fun m hm => absurd hm (Nat.not_lt_zero m), a1, b1, c1⟩ ⟨f2, _, fng_ltD fun m hm => absurd hm (Nat.not_lt_zero m), a2, b2, c2⟩
        | succ d =>
          have lv : ∀ m, m < d + 1 → k0 + c * m + 1 ≤ k0 + c * d + 1 := fun m hm => by
            have := Nat.mul_le_mul_left c (show m ≤ d by omega)
            omega
          exact body (d + 1) (k0 + c * d + 1) (by rw [Nat.mul_succ]; omega) ⟨f1, _, fng_ltD fun m hm => (ih.1 m hm).mono (lv m hm), a1, b1, c1⟩ ⟨f2, _, fng_ltD fun m hm => (ih.2 m hm).mono (lv m hm), a2, b2, c2⟩
      refine ⟨fun m hm => ?_, fun m hm => ?_⟩
      · by_cases e : m = d
        · rw [e]
          exact g1 _ _ r.1
        · exact ih.1 m (by omega)
      · by_cases e : m = d
        · rw [e]
          exact g2 _ _ r.2
        · exact ih.2 m (by omega)
  exact ⟨⟨f1, _, fng_unionD (n := n) (fun d hd => ((go (d + 1)).1 d (by omega)).mono (by have := Nat.mul_le_mul_left c hd; omega)) h1, a1, b1, c1⟩, ⟨f2, _, fng_unionD (n := n) (fun d hd => ((go (d + 1)).2 d (by omega)).mono (by have := Nat.mul_le_mul_left c hd; omega)) h2, a2, b2, c2⟩⟩
theorem caMutP {x1 x2 : Str} {ps1 ps2 : List Str} {B1 B2 : Nat → DSpP → Prop} {sp1 sp2 : Nat → DSpP} {U1 U2 : DSpP} {n k0 : Nat} (c : Nat) (hc : c ≤ k0 + 1) (s1 : Std P w K mg base x1 ps1 DSpP (spP K) B1) (s2 : Std P w K mg base x2 ps2 DSpP (spP K) B2)
    (h1 : ∀ ds q Φ, U1 ds q Φ → ∃ d, d ≤ n ∧ sp1 d ds q Φ) (h2 : ∀ ds q Φ, U2 ds q Φ → ∃ d, d ≤ n ∧ sp2 d ds q Φ)
    (body : ∀ (d l : Nat), l + c ≤ k0 + c * d + 1 → Ca P w K mg base l x1 ps1 (spP K (ltP sp1 d)) → Ca P w K mg base l x2 ps2 (spP K (ltP sp2 d)) → B1 (k0 + c * d) (sp1 d) ∧ B2 (k0 + c * d) (sp2 d)) :
    Ca P w K mg base (k0 + c * n + 1) x1 ps1 (spP K U1) ∧ Ca P w K mg base (k0 + c * n + 1) x2 ps2 (spP K U2) := by
  obtain ⟨f1, fd1, a1, b1, c1, g1⟩ := s1.ex
  obtain ⟨f2, fd2, a2, b2, c2, g2⟩ := s2.ex
  have go : ∀ d, (∀ m, m < d → FnG P w K mg base CX0 (k0 + c * m + 1) f1 fd1 ps1 (spP K (sp1 m))) ∧ ∀ m, m < d → FnG P w K mg base CX0 (k0 + c * m + 1) f2 fd2 ps2 (spP K (sp2 m)) := by
    intro d
    induction d with
    | zero => exact ⟨fun m hm => absurd hm (Nat.not_lt_zero m), fun m hm => absurd hm (Nat.not_lt_zero m)⟩
    | succ d ih =>
      have r : B1 (k0 + c * d) (sp1 d) ∧ B2 (k0 + c * d) (sp2 d) := by
        cases d with
        | zero => exact body 0 0 (by omega) ⟨f1, _, fng_ltP fun m hm => absurd hm (Nat.not_lt_zero m), a1, b1, c1⟩ ⟨f2, _, fng_ltP fun m hm => absurd hm (Nat.not_lt_zero m), a2, b2, c2⟩
        | succ d =>
          have lv : ∀ m, m < d + 1 → k0 + c * m + 1 ≤ k0 + c * d + 1 := fun m hm => by
            have := Nat.mul_le_mul_left c (show m ≤ d by omega)
            omega
          exact body (d + 1) (k0 + c * d + 1) (by rw [Nat.mul_succ]; omega) ⟨f1, _, fng_ltP fun m hm => (ih.1 m hm).mono (lv m hm), a1, b1, c1⟩ ⟨f2, _, fng_ltP fun m hm => (ih.2 m hm).mono (lv m hm), a2, b2, c2⟩
      refine ⟨fun m hm => ?_, fun m hm => ?_⟩
      · by_cases e : m = d
        · rw [e]
          exact g1 _ _ r.1
        · exact ih.1 m (by omega)
      · by_cases e : m = d
        · rw [e]
          exact g2 _ _ r.2
        · exact ih.2 m (by omega)
  exact ⟨⟨f1, _, fng_unionP (n := n) (fun d hd => ((go (d + 1)).1 d (by omega)).mono (by have := Nat.mul_le_mul_left c hd; omega)) h1, a1, b1, c1⟩, ⟨f2, _, fng_unionP (n := n) (fun d hd => ((go (d + 1)).2 d (by omega)).mono (by have := Nat.mul_le_mul_left c hd; omega)) h2, a2, b2, c2⟩⟩
end
end DL
/-! DL: a, b = an own list, e -/
namespace DL
open PySem PySem.Spec PyProof.Rows L2
@[simp] def wParOL (i j : Nat) (w1 : DA) (w2 : DE) : DS := fun Φ s => w1 s fun xs s1 => w2 s1 fun y s2 => Φ.nx ((s2.put i (.o xs)).put j (.d y))
theorem xs_parOL {X : Cx} {i j : Nat} {x y : Str} {a b : Expr} {w1 : DA} {w2 : DE} {px py pt pos : Pos} {kt k2 : Nat} {pt2 : Pos} (hc : X.calm = true) (hN : X.N.Nodup) (hi : X.N[i]? = some x) (hj : X.N[j]? = some y) (hij : i ≠ j)
    (hx : X.env.scope.names.lookup x = some .local) (hy : X.env.scope.names.lookup y = some .local) (ha : XL X a w1) (hb : XE X b w2)
    (hw : swappedStores [.Tuple [.Name x px, .Name y py] kt pt] (.Tuple [a, b] k2 pt2) X.env = pure (some [x, y]))
    (he : starEach [a, b] X.env = (false, eval a X.env) :: starEach [b] X.env := by rfl) (he2 : starEach [b] X.env = (false, eval b X.env) :: starEach [] X.env := by rfl)
    (hsole : swapsWithSole [.Tuple [.Name x px, .Name y py] kt pt] (.Tuple [a, b] k2 pt2) pos.line X.env = pure false := by rfl) : XS X (.Assign [.Tuple [.Name x px, .Name y py] kt pt] (.Tuple [a, b] k2 pt2) pos) (wParOL i j w1 w2) :=
  ps_imp (ps_par hc hN hi hj hij hx hy (pa_cons ha (pa_cons hb pa_nil he2) he) hw hsole) fun D σ H h => by
    obtain ⟨G, P, F, s, Φ, R, h, b⟩ := h
    refine ⟨G, P, F, s, _, R, h, fun p1 vs1 F1 H1 s1 xs R1 e1 n1 hp1 d1 q => ?_⟩
    obtain ⟨G', eG, kG, R1'⟩ := R1.addGs (L := [p1]) (List.nodup_cons.mpr ⟨(fun z => by cases z), List.nodup_nil⟩) fun r hr => by
      rw [List.mem_singleton.mp hr]
      exact ⟨n1.f, n1.g, n1.np, ⟨_, hp1⟩, n1.sl, n1.tb⟩
    obtain ⟨o, g1, g2⟩ := kG p1 List.mem_cons_self
    rw [hp1] at g2
    cases g2
    refine ⟨G', P, F1, s1, _, R1', q, fun v F2 H2 s2 y R2 e2 d2 q2 => ⟨.ref p1, v, rfl, ?_⟩⟩
    have Rw := R2.weakG eG R.tab
    have n1' : Nu G P F2 σ s2 p1 := by
      refine ⟨R2.apart _ _ g1, n1.g, n1.np, fun l zs hl z => ?_, fun l x hl z => ?_⟩
      · obtain ⟨p', vs', k1, k2, k3, _⟩ := R2.sl l _ hl
        rw [z] at k1
        cases k1
        rw [g1] at k3
        cases k3
      · have := (tad_at (R2.sl l x hl) z).2.1
        rw [g1] at this
        cases this
    exact b.nx _ F2 H2 _ ((Rw.setO (i := i) n1' (R2.keep.go g1) (d1.mono e2)).setD (i := j) d2) (e1.trans e2) q2
end DL
/-! DL: expressions that may raise: a call of such a def within an expression -/
namespace DL
open PySem PySem.Spec PyProof.Rows L2
abbrev DEx := S → (PyData → S → Prop) → (Str → List PyData → S → Prop) → Prop
abbrev DAx := S → (List PyData → S → Prop) → (Str → List PyData → S → Prop) → Prop
/-- what is known of an error's end -/
abbrev Kx (X : Cx) (G : Hp) (P : Option Addr) (F : Hp) (σ : L2.St) (Ψ : Str → List PyData → S → Prop) : Prop := ∀ c xs F' H' s', Rep X.K G P F' H' σ s' → Same F F' → Ψ c xs s' → wX X c xs F' σ H'
def tEx (X : Cx) (w : DEx) : TE := fun σ H Q => ∃ G P F s Φ Ψ, Rep X.K G P F H σ s ∧ w s Φ Ψ ∧ (∀ v F' H' s' x, Rep X.K G P F' H' σ s' → Same F F' → Dq X.K F' v x → Φ x s' → Q v H') ∧ Kx X G P F σ Ψ
def tAx (X : Cx) (w : DAx) : TA := fun σ H Q => ∃ G P F s Φ Ψ, Rep X.K G P F H σ s ∧ w s Φ Ψ ∧ (∀ vs F' H' s' xs, Rep X.K G P F' H' σ s' → Same F F' → DqA X.K F' vs xs → Φ xs s' → Q vs H') ∧ Kx X G P F σ Ψ
abbrev XEX (X : Cx) (e : Expr) (w : DEx) : Prop := PE X e (tEx X w)
abbrev XAX (X : Cx) (es : List Expr) (w : DAx) : Prop := PA X es (tAx X w)
theorem Kx.up {X : Cx} {G F F' : Hp} {P : Option Addr} {σ : L2.St} {Ψ : Str → List PyData → S → Prop} (k : Kx X G P F σ Ψ) (e : Same F F') : Kx X G P F' σ Ψ := fun c xs F2 H2 s2 R e2 q => k c xs F2 H2 s2 R (e.trans e2) q
section
variable {X : Cx} {a b e : Expr} {es : List Expr} {pos : Pos}
@[simp] def wUp (w : DE) : DEx := fun s Φ _ => w s Φ
theorem xex_up {w : DE} (h : XE X e w) : XEX X e (wUp w) := pe_imp h fun σ H Q h => by
  obtain ⟨G, P, F, s, Φ, Ψ, R, h, k, kx⟩ := h
  exact ⟨G, P, F, s, Φ, R, h, k⟩
@[simp] def wCallX (sp : DSpX) (wa : DA) : DEx := fun s Φ Ψ => wa s fun ds s1 => sp ds (fun r => Φ r s1) fun c xs => Ψ c xs s1
theorem xex_call {k kX : Nat} {sp : DSpX} {x : Str} {ps : List Str} {p : Pos} {wa : DA} (C : CaX X.prog X.w X.K X.mg X.base k x ps sp) (hgd : X.A.guards = some []) (hr : Room kX X.A) (hk : k ≤ kX) (hg : Gl X x) (ha : XA X (e :: es) wa)
    (hdb : (x == ("__debug__" : Str)) = false := by decide) (he : starEach (e :: es) X.env = (false, eval e X.env) :: starEach es X.env := by rfl) (hpl : (backTo pos (starEach es X.env)).any (·.1) = false := by rfl) :
    XEX X (.Call (.Name x p) (e :: es) [] pos) (wCallX sp wa) := by
  obtain ⟨f, fd, F, gm, kp, b⟩ := C.ex
  refine pe_imp (pe_callX F hgd (hr.mono hk) hg gm kp b (takes_wish X) ha hdb he hpl) fun σ H Q h => ?_
  obtain ⟨G, P, F, s, Φ, Ψ, R, h, k, kx⟩ := h
  exact callX_of (Φr := fun r s1 => Φ r s1) (Φx := fun c xs s1 => Ψ c xs s1) R h (fun v F' H' s' x R' e d q => k v F' H' s' x R' e d q) fun c xs F' H' s' R' e q => kx c xs F' H' s' R' e q
@[simp] def wBinX (w : W2) (wa wb : DEx) : DEx := fun s Φ Ψ => wa s (fun x s1 => wb s1 (fun y s2 => w x y fun z => Φ z s2) Ψ) Ψ
theorem binX_of {r : R2} {w : W2} {wa wb : DEx} (O : Op2 X.K r w) (σ : L2.St) (H : Hp) (Q : VK) (h : tEx X (wBinX w wa wb) σ H Q) : tOp r (tEx X wa) (tEx X wb) σ H Q := by
  obtain ⟨G, P, F, s, Φ, Ψ, R, h, k, kx⟩ := h
  refine ⟨G, P, F, s, _, Ψ, R, h, fun x F1 H1 s1 dx R1 e1 d1 h1 => ⟨G, P, F1, s1, _, Ψ, R1, h1, fun y F2 H2 s2 dy R2 e2 d2 h2 => ?_, kx.up e1⟩, kx⟩
  exact O.run Q _ R2.same (d1.mono e2) d2 h2 fun v F3 H3 d f dq q => k v F3 H3 s2 d (R2.fresh f) ((e1.trans e2).trans f.ff) dq q
theorem xex_op {op : Operator} {r : R2} {w : W2} {wa wb : DEx} (ho : OpR X (binaryOp op) r) (O : Op2 X.K r w) (ha : XEX X a wa) (hb : XEX X b wb) : XEX X (.BinOp a op b pos) (wBinX w wa wb) :=
  pe_imp (pe_op ho ha hb) (binX_of O)
theorem xex_cmp {op : CmpOp} {r : R2} {w : W2} {wa wb : DEx} (ho : OpR X (compareOp op) r) (O : Op2 X.K r w) (ha : XEX X a wa) (hb : XEX X b wb) (hm : behindInMarks op b = false := by first | exact nobehind _ (by decide) (by decide) | rfl) :
    XEX X (.Compare a [op] [b] pos) (wBinX w wa wb) := pe_imp (pe_cmpR ho ha hb hm) (binX_of O)
theorem xex_ixR {r : R2} {w : W2} {wa wb : DEx} (ho : IxR X r) (O : Op2 X.K r w) (ha : XEX X a wa) (hb : XEX X b wb) (hs : PlainIx b := by exact fun _ _ => rfl) : XEX X (.Subscript a b pos) (wBinX w wa wb) :=
  pe_imp (pe_ix ho ha hb hs) (binX_of O)
@[simp] def wNilX : DAx := fun s Φ _ => Φ [] s
@[simp] def wConsX (wa : DEx) (wr : DAx) : DAx := fun s Φ Ψ => wa s (fun x s1 => wr s1 (fun xs s2 => Φ (x :: xs) s2) Ψ) Ψ
theorem xax_nil : XAX X [] wNilX := pa_imp pa_nil fun σ H Q h => by
  obtain ⟨G, P, F, s, Φ, Ψ, R, h, k, kx⟩ := h
  exact k [] F H s [] R (Same.refl F) .nil h
theorem xax_cons {wa : DEx} {wr : DAx} (ha : XEX X e wa) (hr : XAX X es wr) (hs : starEach (e :: es) X.env = (false, eval e X.env) :: starEach es X.env := by rfl) : XAX X (e :: es) (wConsX wa wr) :=
  pa_imp (pa_cons ha hr hs) fun σ H Q h => by
    obtain ⟨G, P, F, s, Φ, Ψ, R, h, k, kx⟩ := h
    refine ⟨G, P, F, s, _, Ψ, R, h, fun x F1 H1 s1 dx R1 e1 d1 h1 => ⟨G, P, F1, s1, _, Ψ, R1, h1, fun xs F2 H2 s2 ds R2 e2 d2 h2 => ?_, kx.up e1⟩, kx⟩
    exact k _ F2 H2 s2 _ R2 (e1.trans e2) (.cons (d1.mono e2) d2) h2
@[simp] def wTupX (w : DAx) : DEx := fun s Φ Ψ => w s (fun xs s1 => xs.length ≤ sizeLine ∧ Φ (.tuple xs) s1) Ψ
theorem xex_tup {x1} {w : DAx} (h : XAX X es w) : XEX X (.Tuple es x1 pos) (wTupX w) := pe_imp (pe_tup h) fun σ H Q h => by
  obtain ⟨G, P, F, s, Φ, Ψ, R, h, k, kx⟩ := h
  refine ⟨G, P, F, s, _, Ψ, R, h, fun xs F1 H1 s1 ds R1 e1 d1 h1 => ⟨by rw [d1.length]; exact h1.1, fun p hp => ?_⟩, kx⟩
  have f := Fresh.new (o := .tup xs) R1.same hp
  exact k _ _ _ s1 _ (R1.fresh f) (e1.trans f.ff) (.tup (SqT.of upd_same) (d1.mono f.ff)) h1.2
@[simp] def wCBX (w : WN) (wa : DAx) : DEx := fun s Φ Ψ => wa s (fun xs s1 => w xs fun z => Φ z s1) Ψ
theorem cbX_of {r : List V → Hp → VK → Prop} {w : WN} {wa : DAx} (O : OpN X.K r w) (σ : L2.St) (H : Hp) (Q : VK) (h : tEx X (wCBX w wa) σ H Q) : tCB r (tAx X wa) σ H Q := by
  obtain ⟨G, P, F, s, Φ, Ψ, R, h, k, kx⟩ := h
  refine ⟨G, P, F, s, _, Ψ, R, h, fun xs F1 H1 s1 ds R1 e1 d1 h1 => ?_, kx⟩
  exact O.run Q _ R1.same d1 h1 fun v F3 H3 d f dq q => k v F3 H3 s1 d (R1.fresh f) (e1.trans f.ff) dq q
theorem xex_callB {x : Str} {p : Pos} {id : String} {r : List V → Hp → VK → Prop} {w : WN} {wa : DAx} (hc : CallR X (.builtin id) r) (O : OpN X.K r w) (hg : Gl X x) (hm : X.mg x = none) (hv : bootBuiltins x = some (.builtin id)) (ha : XAX X (e :: es) wa)
    (hn : x ≠ "__name__" := by decide) (hdb : (x == ("__debug__" : Str)) = false := by decide) (he : starEach (e :: es) X.env = (false, eval e X.env) :: starEach es X.env := by rfl) (hpl : (backTo pos (starEach es X.env)).any (·.1) = false := by rfl) :
    XEX X (.Call (.Name x p) (e :: es) [] pos) (wCBX w wa) := pe_imp (pe_callB hc hg hm hv ha hn hdb he hpl) (cbX_of O)
theorem xex_callTy {x : Str} {p : Pos} {T : String} {r : List V → Hp → VK → Prop} {w : WN} {wa : DAx} (hc : CallR X (.type T) r) (O : OpN X.K r w) (hg : Gl X x) (hm : X.mg x = none) (hv : bootBuiltins x = some (.type T)) (ha : XAX X (e :: es) wa)
    (hn : x ≠ "__name__" := by decide) (hdb : (x == ("__debug__" : Str)) = false := by decide) (he : starEach (e :: es) X.env = (false, eval e X.env) :: starEach es X.env := by rfl) (hpl : (backTo pos (starEach es X.env)).any (·.1) = false := by rfl) :
    XEX X (.Call (.Name x p) (e :: es) [] pos) (wCBX w wa) := pe_imp (pe_callTy hc hg hm hv ha hn hdb he hpl) (cbX_of O)
/-! statements with such an expression -/
@[simp] def wRetE (w : DEx) : DS := fun Φ s => w s Φ.rt Φ.ex
theorem xs_retE {w : DEx} (h : XEX X e w) : XS X (.Return (some e) pos) (wRetE w) := ps_imp (ps_ret h) fun D σ H h => by
  obtain ⟨G, P, F, s, Φ, R, h, b⟩ := h
  exact ⟨G, P, F, s, _, _, R, h, fun v F' H' s' x R' e d q => b.rt v σ F' H' s' x R' e d q, fun c xs F' H' s' R' e q => b.ex c xs σ F' H' s' R' e q⟩
@[simp] def wSetE (i : Nat) (w : DEx) : DS := fun Φ s => w s (fun x s1 => Φ.nx (s1.put i (.d x))) Φ.ex
theorem xs_setE {i : Nat} {x : Str} {w : DEx} {pos' : Pos} (hN : X.N.Nodup) (hi : X.N[i]? = some x) (hx : Loc X.env.scope x) (h : XEX X e w) (hs : swapsWith e (some (.Name x pos')) pos.line X.env = pure false := by rfl)
    (hf : X.fn x = true ∨ X.env.scope.names.lookup x = some .local := by first | exact .inl rfl | exact .inr rfl | assumption) : XS X (.Assign [.Name x pos'] e pos) (wSetE i w) := ps_imp (ps_set hN hi hx h hs hf) fun D σ H h => by
  obtain ⟨G, P, F, s, Φ, R, h, b⟩ := h
  exact ⟨G, P, F, s, _, _, R, h, fun v F' H' s' x R' e d q => b.nx _ F' H' _ (R'.setD d) e q, fun c xs F' H' s' R' e q => b.ex c xs σ F' H' s' R' e q⟩
end
end DL
/-! DL: try: .. with clauses some of which have a name and some have none -/
namespace DL
open PySem PySem.Spec PyProof.Rows L2
section
variable {X : Cx} {pins : List (Addr × Obj)} {σ : L2.St} {H : Hp} {B : Heap} {a : Addr} {cls : Value} {d : Option Addr} {s : Shared}
/-- one clause «except x» -/
theorem Caught.clauseU (ok : X.Ok) (hf : X.env.frame = some X.env.locals) (c : Caught X pins σ H B a cls d s) {x : Str} {cv : Value} {suite : List Stmt} {b₀ : Stmt} {np pos' : Pos} {rest : List ExceptHandler} {ts : Addr → Value → Option Addr → TS} {D : Ends} {b : Bool}
    (hc : Names X x cv) (hb : PySem.W.exmOne X.K cls cv = some b)
    (hsu : ∀ (oe : Obj) (pn : List (Addr × Obj)), Zc cls d oe → (∃ vs, oe.data = .fields vs) → PSs (X.suite a ((a, oe) :: pn)) (b₀ :: suite) (ts a cls d))
    (yes : b = true → ts a cls d D σ H)
    (no : b = false → wpAny (model X.prog X.w) X.A (handleBy (.ref a) X.env rest) (SP X pins D) X.xe s) :
    wpAny (model X.prog X.w) X.A (handleBy (.ref a) X.env (.ExceptHandler (some (.Name x np)) none (b₀ :: suite) pos' :: rest)) (SP X pins D) X.xe s := by
  obtain ⟨oe, hz, hd, he, mk⟩ := c.at hf
  have S := mk s.heap c.fl.1 (Heap.UpToSlots.refl _) he
  refine wpAny_handleBy_cons (codeAny_handlers_test ?_) (by intro q; cases q)
  have ty : PySem.W.Looks (model X.prog X.w) s.heap (typeOf (.ref a)) cls := fun A Q E s1 k q => wpAny_typeOf_ref (k _ _ he) (by rw [hz.1]; exact q)
  have mt := (PySem.W.exm_one (M := model X.prog X.w) c.inv.kIn ty hb)
  have nm : ∀ {Q : Value → Shared → Prop} {E : Value → Shared → Prop}, Q cv s → wpAny (model X.prog X.w) (X.A.mark (some (.ref a))) (eval (.Name x np) X.env) Q E s := fun {Q E} q => by
    obtain ⟨hg, hdb, hm | ⟨hm, hv, hnn⟩⟩ := hc
    · exact ld_glob (X := X.suite a ((a, oe) :: (X.pn ++ pins))) S hg hm q hdb
    · exact ld_blt (X := X.suite a ((a, oe) :: (X.pn ++ pins))) S hg hm hv q hnn hdb
  refine nm (mt.here ?_)
  cases b with
  | false => exact no rfl
  | true =>
    refine codeAny_handlers_suite (HandSPX.lands_againZ c.fl fun g fl up => ?_)
    obtain ⟨oe2, hz2, hd2, he2, mk2⟩ := (c.again fl up).at hf
    have S2 := mk2 g fl.1 (Heap.UpToSlots.refl _) he2
    refine wpAny_mono ((hsu oe2 (X.pn ++ pins) hz2 hd2).run [] _ _ H _ S2 (yes rfl)) (fun f s6 hsp => ?_) (fun _ _ z => z.elim)
    match f, hsp with
    | .next, ⟨σ6, H6, I6, q⟩ => exact ⟨_, _, I6.unsuite ok, q⟩
    | .brk, ⟨σ6, H6, I6, q⟩ => exact ⟨_, _, I6.unsuite ok, q⟩
    | .cont, ⟨σ6, H6, I6, q⟩ => exact ⟨_, _, I6.unsuite ok, q⟩
    | .ret u, ⟨v, σ6, H6, I6, r, q⟩ => exact ⟨v, _, _, I6.unsuite ok, r, q⟩
end
/-- what the clauses want of an error, one behind the other -/
def wClauses2 (K : PySem.W.Frag) (Wout : WX) (D : Ends) : List (Value × Option Nat × (Addr → Value → Option Addr → TS)) → WX
  | [] => Wout
  | (cv, some i, ts) :: r => fun cls d σ H => ∃ b, PySem.W.exmOne K cls cv = some b ∧
    (b = true → ∀ a, H a = none → ts a cls d { nx := fun σ' H' => D.nx (σ'.set i none) H', rt := D.rt, bk := fun σ' H' => D.bk (σ'.set i none) H', ct := fun σ' H' => D.ct (σ'.set i none) H' } (σ.set i (some (.ref a))) H) ∧ (b = false → wClauses2 K Wout D r cls d σ H)
  | (cv, none, ts) :: r => fun cls d σ H => ∃ b, PySem.W.exmOne K cls cv = some b ∧ (b = true → ∀ a, H a = none → ts a cls d D σ H) ∧ (b = false → wClauses2 K Wout D r cls d σ H)
inductive Clauses2 (X : Cx) : List ExceptHandler → List (Value × Option Nat × (Addr → Value → Option Addr → TS)) → Prop
  | nil : Clauses2 X [] []
  | cons {x n : Str} {cv : Value} {i : Nat} {suite : List Stmt} {b₀ : Stmt} {np pos' : Pos} {rest : List ExceptHandler} {ts : Addr → Value → Option Addr → TS} {l : List (Value × Option Nat × (Addr → Value → Option Addr → TS))} (hi : X.N[i]? = some n) (hln : X.env.kindOf n = some .local) (hc : Names X x cv)
      (hsu : ∀ (a : Addr) (oe : Obj) (cls : Value) (d : Option Addr) (pn : List (Addr × Obj)), Zc cls d oe → (∃ vs, oe.data = .fields vs) → PSs (X.suite a ((a, oe) :: pn)) (b₀ :: suite) (ts a cls d)) (r : Clauses2 X rest l) :
      Clauses2 X (.ExceptHandler (some (.Name x np)) (some n) (b₀ :: suite) pos' :: rest) ((cv, some i, ts) :: l)
  | bare {x : Str} {cv : Value} {suite : List Stmt} {b₀ : Stmt} {np pos' : Pos} {rest : List ExceptHandler} {ts : Addr → Value → Option Addr → TS} {l : List (Value × Option Nat × (Addr → Value → Option Addr → TS))} (hc : Names X x cv)
      (hsu : ∀ (a : Addr) (oe : Obj) (cls : Value) (d : Option Addr) (pn : List (Addr × Obj)), Zc cls d oe → (∃ vs, oe.data = .fields vs) → PSs (X.suite a ((a, oe) :: pn)) (b₀ :: suite) (ts a cls d)) (r : Clauses2 X rest l) :
      Clauses2 X (.ExceptHandler (some (.Name x np)) none (b₀ :: suite) pos' :: rest) ((cv, none, ts) :: l)
theorem clauses2_run {X : Cx} {pins : List (Addr × Obj)} {σ : L2.St} {H : Hp} {B : Heap} {a : Addr} {cls : Value} {d : Option Addr} {s : Shared} (ok : X.Ok) (hf : X.env.frame = some X.env.locals) (hN : X.N.Nodup) (c : Caught X pins σ H B a cls d s) {Wout : WX} (tk : Takes X Wout) {D : Ends}
    {hds : List ExceptHandler} {l : List (Value × Option Nat × (Addr → Value → Option Addr → TS))} (hh : Clauses2 X hds l) (w : wClauses2 X.K Wout D l cls d σ H) : wpAny (model X.prog X.w) X.A (handleBy (.ref a) X.env hds) (SP X pins D) X.xe s := by
  induction hh with
  | nil => exact c.leave hf tk w
  | cons hi hln hc hsu r ih =>
    obtain ⟨b, hb, yes, no⟩ := w
    exact c.clause ok hf hN hi hln hc hb (fun oe pn hz hd => hsu a oe cls d pn hz hd) (fun e => yes e a c.no) fun e => ih (no e)
  | bare hc hsu r ih =>
    obtain ⟨b, hb, yes, no⟩ := w
    exact c.clauseU ok hf hc hb (fun oe pn hz hd => hsu a oe cls d pn hz hd) (fun e => yes e a c.no) fun e => ih (no e)
theorem ps_try_clauses2 {X : Cx} {body : List Stmt} {h₀ : ExceptHandler} {hds : List ExceptHandler} {pos : Pos} {tb : WX → TS} {Wout : WX} {l : List (Value × Option Nat × (Addr → Value → Option Addr → TS))} (hs : X.stack = X.env :: X.outer) (hf : X.env.frame = some X.env.locals) (hN : X.N.Nodup) (tk : Takes X Wout)
    (hb : ∀ (W : WX) (pn : List (Addr × Obj)) (xe : Value → Shared → Prop), Takes (X.tr pn xe) W → PassesOwn (model X.prog X.w) X.A X.env xe → PSs (X.tr pn xe) body (tb W))
    (hh : Clauses2 X (h₀ :: hds) l) : PS X (.Try body (h₀ :: hds) [] [] pos) (fun D σ H => tb (wClauses2 X.K Wout D l) D σ H) := by
  refine ⟨fun pins s σ H D I h => wpAny_Try_except ?_⟩
  have hfr : X.A.frames = some (X.env :: X.outer) := by rw [I.ok.frames, hs]
  let xe : Value → Shared → Prop := fun e s1 => wpAny (model X.prog X.w) X.A (noteFrame e X.env) (fun _ s2 => wpAny (model X.prog X.w) X.A (setFlight e none) (fun _ s3 => wpAny (model X.prog X.w) X.A (handleBy e X.env (h₀ :: hds)) (SP X pins D) X.xe s3) X.xe s2) X.xe s1
  have catches : Takes (X.tr (X.pn ++ pins) xe) (wClauses2 X.K Wout D l) := fun u s' xx => by
    obtain ⟨a, B, sI, pins', σ', H', cls, d, rfl, J0, nb, up, sky, na, os, ag, w⟩ := xx
    have J : Inv X pins σ' H' sI := J0.ofTry I.ok
    refine Sky.land Zc.steady hfr hf (by rw [← hs]; exact sky) fun g fl up3 => clauses2_run (s := { s' with heap := g }) I.ok hf hN (B := B) (cls := cls) (d := d) ⟨fl, na, fun g2 st up4 => J.landed nb st ((up.trans up3).trans up4) os ag, fun W2 tk2 w2 g2 hh2 up4 => tk2 _ _ ⟨a, B, sI, pins, σ', H', cls, d, rfl, J, nb, (up.trans up3).trans up4, .inr (.inr (by rw [hs]; exact hh2)), na, os, ag, w2⟩⟩ tk hh w
  refine wpAny_mono ((hb (wClauses2 X.K Wout D l) (X.pn ++ pins) xe catches PassesOwn.looking).run [] s σ H D (I.toTry _) h) (fun f s1 hsp => ?_) (fun e s1 he => he)
  match f, hsp with
  | .next, ⟨σ', H', J, q⟩ => exact wpAny_execs_nil ⟨σ', H', J.ofTry I.ok, q⟩
  | .brk, ⟨σ', H', J, q⟩ => exact ⟨σ', H', J.ofTry I.ok, q⟩
  | .cont, ⟨σ', H', J, q⟩ => exact ⟨σ', H', J.ofTry I.ok, q⟩
  | .ret u, ⟨v, σ', H', J, r, q⟩ => exact ⟨v, σ', H', J.ofTry I.ok, r, q⟩
/-! over data -/
abbrev ClsD2 := List (Option Nat × Str × (Addr → Str → Option Addr → DS))
def pickC2 (b : Str → Str → Bool) (c : Str) (xs : List PyData) (s : S) (Φ : EN) : ClsD2 → Prop
  | [] => Φ.ex c xs s
  | (some i, x, ws) :: r => if b x c = true then (xs = [] → ∀ a, ws a c none (enAs i Φ) (s.put i (.d (excD a)))) ∧ (xs ≠ [] → ∀ a dd, ws a c (some dd) (enAs i Φ) (s.put i (.d (excF a dd xs)))) else pickC2 b c xs s Φ r
  | (none, x, ws) :: r => if b x c = true then ∀ a d, ws a c d { nx := Φ.nx, rt := Φ.rt, bk := Φ.bk, ct := Φ.ct, rl := Φ.rl } s else pickC2 b c xs s Φ r
@[simp] def wTryN2 (L : List Str) (b : Str → Str → Bool) (cl : ClsD2) (wb : DS) : DS := fun Φ s => wb { nx := Φ.nx, rt := Φ.rt, bk := Φ.bk, ct := Φ.ct, rl := Φ.rl, ex := fun c xs s' => c ∈ L ∧ pickC2 b c xs s' Φ cl } s
inductive XCl2 (X : Cx) (L : List Str) : List ExceptHandler → ClsD2 → Prop
  | nil : XCl2 X L [] []
  | cons {x n : Str} {i : Nat} {suite : List Stmt} {b₀ : Stmt} {np pos' : Pos} {rest : List ExceptHandler} {ws : Addr → Str → Option Addr → DS} {l : ClsD2} (hi : X.N[i]? = some n) (hln : X.env.kindOf n = some .local) (hx : x ∈ L) (hg : Gl X x) (hdb : (x == ("__debug__" : Str)) = false)
      (hsu : ∀ (p0 : Addr × Obj) (c : Str) (D : Addr) (d : Option Addr) (pn : List (Addr × Obj)), c ∈ L → HeldN X.K c D d p0 → XSs (X.suite p0.1 (p0 :: pn)) (b₀ :: suite) (ws p0.1 c d)) (r : XCl2 X L rest l) :
      XCl2 X L (.ExceptHandler (some (.Name x np)) (some n) (b₀ :: suite) pos' :: rest) ((some i, x, ws) :: l)
  | bare {x : Str} {suite : List Stmt} {b₀ : Stmt} {np pos' : Pos} {rest : List ExceptHandler} {ws : Addr → Str → Option Addr → DS} {l : ClsD2} (hx : x ∈ L) (hg : Gl X x) (hdb : (x == ("__debug__" : Str)) = false)
      (hsu : ∀ (p0 : Addr × Obj) (c : Str) (D : Addr) (d : Option Addr) (pn : List (Addr × Obj)), c ∈ L → HeldN X.K c D d p0 → XSs (X.suite p0.1 (p0 :: pn)) (b₀ :: suite) (ws p0.1 c d)) (r : XCl2 X L rest l) :
      XCl2 X L (.ExceptHandler (some (.Name x np)) none (b₀ :: suite) pos' :: rest) ((none, x, ws) :: l)
theorem xcl2_run {X : Cx} {L FL : List Str} {b : Str → Str → Bool} (E : Ers X.K X.mg L b FL) {hds : List ExceptHandler} {cl : ClsD2} (hh : XCl2 X L hds cl) :
    ∃ l, Clauses2 X hds l ∧ ∀ {D' : Ends} {Φ : EN} {G : Hp} {P : Option Addr} {F H : Hp} {σ : L2.St} {s : S} {c : Str} {xs : List PyData} {C : Addr} {d : Option Addr}, c ∈ L → X.mg c = some (.ref C) → Rep X.K G P F H σ s → Beh X.K G P F Φ D' (wX X) → pickC2 b c xs s Φ cl →
      ((xs = [] ∧ d = none) ∨ ∃ dd fs, d = some dd ∧ xs ≠ [] ∧ F dd = some (.xd fs) ∧ FldF fs xs) → wClauses2 X.K (wishOf X) D' l (.ref C) d σ H := by
  induction hh with
  | nil =>
    refine ⟨[], .nil, fun {D' Φ G P F H σ s c xs C d} hc gC R bh q hx => ?_⟩
    have z := bh.ex c xs σ F H s R (Same.refl F) q C gC
    rcases hx with ⟨e, rfl⟩ | ⟨dd, fs, rfl, ne, h1, h2⟩
    · exact z.1 e
    · exact z.2 ne dd fs h1 h2
  | @cons x n i suite b₀ np pos' rest ws l hi hln hx hg hdb hsu r ih =>
    obtain ⟨l2, hc2, go⟩ := ih
    obtain ⟨Cx, gx, _⟩ := E.kit x hx
    refine ⟨(.ref Cx, some i, fun a cls d D' σ H => ∃ c D, c ∈ L ∧ PySem.W.nsIn X.K mainGlobals c = some (some (.ref D)) ∧ cls = .ref D ∧ tS X.K noX (ws a c d) D' σ H) :: l2, .cons hi hln ⟨hg, hdb, .inl gx⟩ (fun a oe cls d pn hz hf => ⟨fun pins s σ H D' I h => ?_⟩) hc2, fun {D' Φ G P F H σ s c xs C d} hc gC R bh q hxs => ?_⟩
    · obtain ⟨c, D, hcL, hns, rfl, h⟩ := h
      exact (hsu (a, oe) c D d pn hcL ⟨hns, hz, hf⟩).run pins s σ H D' I (tS_wish (fun c xs F σ H q => q.elim) h)
    · refine ⟨b x c, E.exm x hx c hc Cx C gx gC, fun e2 a na => ⟨c, C, hc, E.ns c hc C gC, rfl, ?_⟩, fun e2 => ?_⟩
      · unfold pickC2 at q
        rw [if_pos e2] at q
        have bb : ∀ (F' : Hp), F' = F → Beh X.K G P F' (enAs i Φ) { nx := fun σ' H' => D'.nx (σ'.set i none) H', rt := D'.rt, bk := fun σ' H' => D'.bk (σ'.set i none) H', ct := fun σ' H' => D'.ct (σ'.set i none) H' } noX := fun F' eF => by
          subst eF
          exact ⟨fun σ2 F2 H2 s2 R2 e3 q2 => bh.nx _ F2 H2 _ R2.dropU e3 q2, fun v σ2 F2 H2 s2 x R2 e3 => bh.rt v σ2 F2 H2 s2 x R2 e3, fun σ2 F2 H2 s2 R2 e3 q2 => bh.bk _ F2 H2 _ R2.dropU e3 q2, fun σ2 F2 H2 s2 R2 e3 q2 => bh.ct _ F2 H2 _ R2.dropU e3 q2,
            fun p vs σ2 F2 H2 s2 xs R2 e3 => bh.rl p vs σ2 F2 H2 s2 xs R2 e3, fun _ _ _ _ _ _ _ _ z => z.elim⟩
        rcases hxs with ⟨e, rfl⟩ | ⟨dd, fs, rfl, ne, h1, h2⟩
        · exact ⟨G, P, F, _, _, R.setD (.er a), q.1 e a, bb F rfl⟩
        · exact ⟨G, P, F, _, _, R.setD (.ef h1 h2), q.2 ne a dd, bb F rfl⟩
      · unfold pickC2 at q
        rw [if_neg (by rw [e2]; decide)] at q
        exact go hc gC R bh q hxs
  | @bare x suite b₀ np pos' rest ws l hx hg hdb hsu r ih =>
    obtain ⟨l2, hc2, go⟩ := ih
    obtain ⟨Cx, gx, _⟩ := E.kit x hx
    refine ⟨(.ref Cx, none, fun a cls d D' σ H => ∃ c D, c ∈ L ∧ PySem.W.nsIn X.K mainGlobals c = some (some (.ref D)) ∧ cls = .ref D ∧ tS X.K noX (ws a c d) D' σ H) :: l2, .bare ⟨hg, hdb, .inl gx⟩ (fun a oe cls d pn hz hf => ⟨fun pins s σ H D' I h => ?_⟩) hc2, fun {D' Φ G P F H σ s c xs C d} hc gC R bh q hxs => ?_⟩
    · obtain ⟨c, D, hcL, hns, rfl, h⟩ := h
      exact (hsu (a, oe) c D d pn hcL ⟨hns, hz, hf⟩).run pins s σ H D' I (tS_wish (fun c xs F σ H q => q.elim) h)
    · refine ⟨b x c, E.exm x hx c hc Cx C gx gC, fun e2 a na => ⟨c, C, hc, E.ns c hc C gC, rfl, ?_⟩, fun e2 => ?_⟩
      · unfold pickC2 at q
        rw [if_pos e2] at q
        exact ⟨G, P, F, _, _, R, q a d, ⟨bh.nx, bh.rt, bh.bk, bh.ct, bh.rl, fun _ _ _ _ _ _ _ _ z => z.elim⟩⟩
      · unfold pickC2 at q
        rw [if_neg (by rw [e2]; decide)] at q
        exact go hc gC R bh q hxs
theorem xs_try_n2 {X : Cx} {L FL : List Str} {b : Str → Str → Bool} {body : List Stmt} {h₀ : ExceptHandler} {hds : List ExceptHandler} {pos : Pos} {wb : DS} {cl : ClsD2} (hs : X.stack = X.env :: X.outer) (hf : X.env.frame = some X.env.locals) (hN : X.N.Nodup) (E : Ers X.K X.mg L b FL)
    (hb : ∀ (pn : List (Addr × Obj)) (xe : Value → Shared → Prop), PassesOwn (model X.prog X.w) X.A X.env xe → XSs (X.tr pn xe) body wb) (hh : XCl2 X L (h₀ :: hds) cl) : XS X (.Try body (h₀ :: hds) [] [] pos) (wTryN2 L b cl wb) := by
  obtain ⟨l, hcl, go⟩ := xcl2_run E hh
  refine ps_imp (ps_try_clauses2 (tb := fun W => tS X.K (wW X.K X.mg W) wb) hs hf hN (takes_wish X) (fun W pn xe tk pa => pss_imp (hb pn xe pa) fun D σ H t => tS_wish (fun c xs F σ H q => wW_X tk q) t) hcl) fun D' σ H h => ?_
  obtain ⟨G, P, F, s, Φ, R, h, bh⟩ := h
  refine ⟨G, P, F, s, _, R, h, ⟨bh.nx, bh.rt, bh.bk, bh.ct, bh.rl, fun c xs σ' F' H' s' R' e q => ?_⟩⟩
  refine fun C gC => ⟨fun e2 => go q.1 gC R' (bh.up e) q.2 (.inl ⟨e2, rfl⟩), fun ne d fs h1 h2 => go q.1 gC R' (bh.up e) q.2 (.inr ⟨d, fs, rfl, ne, h1, h2⟩)⟩
end DL
/-! DL: x.split(sep), x.pop() of an own list, int(text) -/
namespace DL
open PySem PySem.Spec PyProof.Rows L2
theorem dqa_strs {K : PySem.W.Frag} {F : Hp} : ∀ ys : List Str, DqA K F (ys.map V.str) (ys.map .str)
  | [] => .nil
  | y :: ys => .cons (.str y) (dqa_strs ys)
section
variable {X : Cx} {o e : Expr} {pos : Pos}
/-- x.split(sep): a new list -/
@[simp] def wSplit (wo we : DE) : DA := fun s Φ => wo s fun x s1 => ∃ a : Str, x = .str a ∧ we s1 fun y s2 => ∃ b : Str, y = .str b ∧ (b.length == 0) = false ∧ a.length + 2 ≤ sizeLine ∧ Φ ((Txt.split a b).map .str) s2
theorem xl_split {apos : Pos} {wo we : DE} (ho : XE X o wo) (he : XE X e we) (hs : starEach [e] X.env = [(false, eval e X.env)] := by rfl) (hbase : attributeBase o "split" X.env (eval o X.env) = eval o X.env := by rfl) (hline : (apos.endLine == pos.line) = true := by rfl) :
    XL X (.Call (.Attribute o "split" apos) [e] [] pos) (wSplit wo we) := pe_imp (pe_split ho he hs hbase hline) fun σ H Q h => by
  obtain ⟨G, P, F, s, Φ, R, h, k⟩ := h
  refine ⟨G, P, F, s, _, R, h, fun x F1 H1 s1 dx R1 e1 d1 h1 => ?_⟩
  obtain ⟨a, rfl, h1⟩ := h1
  cases d1
  refine ⟨⟨a, rfl⟩, G, P, F1, s1, _, R1, h1, fun y F2 H2 s2 dy R2 e2 d2 h2 => ?_⟩
  obtain ⟨b, rfl, h3, h4, h5⟩ := h2
  cases d2
  refine ⟨a, b, rfl, rfl, h3, h4, fun p hp => ?_⟩
  obtain ⟨R3, n⟩ := nu_new (o := .lst ((Txt.split a b).map V.str)) R2 hp
  exact k p _ F2 _ s2 _ R3 (e1.trans e2) n upd_same (dqa_strs _) h5
/-- x.pop(), x one's own -/
@[simp] def wPop (i : Nat) : DE := fun s Φ => ownAt s i fun xs => ∃ x, xs.getLast? = some x ∧ Φ x (s.put i (.o xs.dropLast))
theorem dqa_drop {K : PySem.W.Frag} {F : Hp} : ∀ {vs : List V} {xs : List PyData}, DqA K F vs xs → DqA K F vs.dropLast xs.dropLast
  | _, [], h => by cases h; exact .nil
  | _, [_], h => by
    cases h with
    | cons h1 h2 => cases h2; exact .nil
  | _, _ :: y :: ys, h => by
    cases h with
    | cons h1 h2 =>
      cases h2 with
      | cons h3 h4 => exact .cons h1 (dqa_drop (.cons h3 h4))
theorem dqa_last {K : PySem.W.Frag} {F : Hp} : ∀ {vs : List V} {xs : List PyData} {x : PyData}, DqA K F vs xs → xs.getLast? = some x → ∃ v, vs[vs.length - 1]? = some v ∧ Dq K F v x
  | _, [], _, _, e => by cases e
  | _, [a], x, h, e => by
    cases h with
    | cons h1 h2 =>
      cases h2
      cases e
      exact ⟨_, rfl, h1⟩
  | _, a :: y :: ys, x, h, e => by
    cases h with
    | cons h1 h2 =>
      obtain ⟨v, e1, d⟩ := dqa_last h2 (by rw [List.getLast?_cons_cons] at e; exact e)
      cases h2 with
      | cons h3 h4 => exact ⟨v, by simpa using e1, d⟩
theorem xe_pop {i : Nat} {x : Str} {xp p1 : Pos} (hv : PE X (.Name x xp) (tVar i))
    (hbase : attributeBase (.Name x xp) "pop" X.env (eval (.Name x xp) X.env) = eval (.Name x xp) X.env := by rfl) (hline : (p1.endLine == pos.line) = true := by rfl) : XE X (.Call (.Attribute (.Name x xp) "pop" p1) [] [] pos) (wPop i) :=
  pe_imp (pe_bm0 PySem.F.plainAttrs_list PySem.F.slot_list_pop PySem.F.type_list_pop mt_pop hv hbase hline) fun σ H Q h => by
    obtain ⟨G, P, F, s, Φ, R, h, k⟩ := h
    obtain ⟨xs, h0, y, hy, h⟩ := ownAt_of h
    obtain ⟨p, vs, e1, _, _, _, e5, e6⟩ := R.sl i _ h0
    obtain ⟨v, ev, dv⟩ := dqa_last e6 hy
    exact ⟨_, e1, .inl ⟨rfl, _, SqL.of e5⟩, p, vs, v, rfl, rfl, e5, ev, k v F _ _ y (R.wrO h0 e1 (dqa_drop e6)) (Same.refl F) dv h⟩
end
/-- int(text) -/
@[simp] def gIntT : WN := fun ds Φ => ∃ a n, ds = [.str a] ∧ PySem.intText? a = some n ∧ a.length ≤ 640 ∧ Φ (.int n)
theorem opn_intT {K : PySem.W.Frag} : OpN K (fun xs H Q => ∃ a n, xs = [.str a] ∧ PySem.intText? a = some n ∧ a.length ≤ 640 ∧ Q (.int n) H) gIntT := ⟨fun {F H xs ds} Q Φ e d h k => by
  obtain ⟨a, n, rfl, h1, h2, h3⟩ := h
  cases d with
  | cons d1 d2 =>
    cases d2
    cases d1
    exact ⟨a, n, rfl, h1, h2, k _ F H _ (Fresh.refl e) (.int n) h3⟩⟩
end DL
/-! DL: a comprehension whose element may raise -/
namespace DL
open PySem PySem.Spec PyProof.Rows L2
theorem noteFrame_congr {x : Value} {e1 e2 : Env} (h : e1.frame = e2.frame) : noteFrame x e1 = noteFrame x e2 := by
  unfold noteFrame PySem.frameOf
  rw [h]
/-- behind a comprehension's block, its environment told -/
def compPostR (M : Model) (A : Around) (E : Value → Shared → Prop) (use : Option (Value → Sem Unit)) (Q : Value → Shared → Prop) (acc : Value) (ce : Env) (r : Result) (s' : Shared) : Prop :=
  match r, use with
  | .ok _, none => ∃ m, s'.heap.Ns ce.locals m ∧ ∀ h', Heap.SameBut ce.locals s'.heap h' → Q acc { s' with heap := h' }
  | .ok _, some u => wpAny M A (u acc) (fun _ s'' => ∃ m, s''.heap.Ns ce.locals m ∧ ∀ h', Heap.SameBut ce.locals s''.heap h' → Q .none { s'' with heap := h' }) E s'
  | .error x, _ => ∃ m, s'.heap.Ns ce.locals m ∧ ∀ h', Heap.SameBut ce.locals s'.heap h' → wpAny M A (passOn "comprehension.variables-let-go" x ce : Sem Value) (fun _ _ => False) E { s' with heap := h' }
theorem comprehension_freeR {M : Model} {A : Around} {E : Value → Shared → Prop} {env : Env} {s : Shared} {e : Expr} {scope : Scope} {pos : Pos} {newAcc first : Sem Value} {g : Comprehension} {gs : List Comprehension} {cl : List (Str × Addr)} {use : Option (Value → Sem Unit)}
    {Q : Value → Shared → Prop}
    (hcl : clausesOf e = g :: gs) (hs : ∀ x, foldedSetIterable g.iter env x = pure x) (hclos : closureFor scope env = pure cl)
    (hkind : scope.kind = .function) (hnames : ∀ x ∈ scope.names, x.2 = .local → scope.names.lookup x.1 = some .local)
    (h : wpAny M A first (fun x s₁ => wpAny M A (pyIter x) (fun it s₂ => wpAny M A newAcc (fun acc s₃ =>
      wpAny M A (newFunctionEnv scope env.globals cl [] env.qual none .none (some env)) (fun cenv s₄ =>
        codeAny M A (.compStart e 0 it acc { cenv with scope := relabel scope env }) (compPostR M A E use Q acc { cenv with scope := relabel scope env }) s₄) E s₃) E s₂) E s₁) E s) :
    wpAny M A (comprehension e scope env pos newAcc false first use) Q E s := by
  unfold comprehension
  rw [hclos, hcl]
  refine wpAny_bind (wpAny_mono h (fun x s₁ h₁ => wpAny_bind (wpAny_standAt (wpAny_bind (wpAny_of_eq (hs x) (wpAny_bind (wpAny_holding (wpAny_mono h₁ (fun it s₂ h₂ =>
    wpAny_standIf (wpAny_bind (wpAny_mono h₂ (fun acc s₃ h₃ => wpAny_bind (wpAny_pure (wpAny_bind (wpAny_mono h₃ (fun cenv s₄ h₄ => ?_) fun _ _ h' => h')))) fun _ _ h' => h')))
      fun _ _ h' => h'))))))) fun _ _ h' => h')
  dsimp only
  have hv : ∀ x ∈ (scope.names.filter fun x => (x.2 == .local || x.2 == .cell) && x.1 != (".0" : Str)).reverse, x.2 = .local →
      Env.kindOf { cenv with scope := relabel scope env } x.1 = some .local := fun x hx hl => lookup_relabel_local (hnames x (List.mem_filter.mp (List.mem_reverse.mp hx)).1 hl)
  have hv' : ∀ x ∈ (scope.names.filter fun x => (x.2 == .local || x.2 == .cell) && x.1 != (".0" : Str)).reverse.drop 1 ++ (scope.names.filter fun x => (x.2 == .local || x.2 == .cell) && x.1 != (".0" : Str)).reverse.take 1,
      x.2 = .local → Env.kindOf { cenv with scope := relabel scope env } x.1 = some .local := fun x hx hl => by
    rcases List.mem_append.mp hx with h1 | h1
    · exact hv x (List.mem_of_mem_drop h1) hl
    · exact hv x (List.mem_of_mem_take h1) hl
  refine wpAny_holding (wpAny_bind (wpAny_attempt (wpAny_holding (wpAny_run (codeAny_mono h₄ fun r s' hr => ?_)))))
  cases r with
  | ok f =>
    cases use with
    | none =>
      obtain ⟨m, hn, hr⟩ := hr
      exact wpAny_bind (wpAny_holding (wpAny_comp_letGo (cenv := { cenv with scope := relabel scope env }) hkind _ s' m hv hn fun h' m' _ hs' => wpAny_pure (hr h' hs')))
    | some u =>
      refine wpAny_bind (wpAny_rule (wpAny_bind (wpAny_holding (wpAny_mono hr (fun _ s'' hr' => ?_) fun _ _ h' => h'))))
      obtain ⟨m, hn, hr'⟩ := hr'
      exact wpAny_bind (wpAny_comp_letGo (cenv := { cenv with scope := relabel scope env }) hkind _ s'' m hv' hn fun h' m' _ hs' => wpAny_pure (hr' h' hs'))
  | error x =>
    have hr' : ∃ m, s'.heap.Ns cenv.locals m ∧ ∀ h', Heap.SameBut cenv.locals s'.heap h' → wpAny M A (passOn "comprehension.variables-let-go" x { cenv with scope := relabel scope env } : Sem Value) (fun _ _ => False) E { s' with heap := h' } := by cases use <;> exact hr
    obtain ⟨m, hn, hr⟩ := hr'
    exact wpAny_bind (wpAny_holding (wpAny_comp_letGo (cenv := { cenv with scope := relabel scope env }) hkind _ s' m hv hn fun h' m' _ hs' => wpAny_mono (hr h' hs') (fun _ _ f => f.elim) fun _ _ y => y))
end DL
namespace PySem
namespace HandSPX
section
variable {M : Model} {A : Around} {E : Value → Shared → Prop} {s : Shared} {Z : Obj → Prop} {base : Heap} {env : Env} {outer l : List Env} {L e : Addr}
/-- the frame is noted, the mark being another one -/
theorem looks_anyZ {fl : Value} {Q : Unit → Shared → Prop} (hZ : Steady Z) (hfr : A.frames = some (env :: outer)) (hf : env.frame = some L) (hkb : base.StaysIn s.heap) (hen : base.get? e = none) (hl : s.heap.FunFrames base (env :: outer)) (ht : TracedZ s.heap base e Z fl) (hfl : (fl == rawInt L) = false)
    (hQ : ∀ h', HeldZ base (env :: outer) e Z L h' → s.heap.UpToSlots h' → Q () { s with heap := h' }) : wpAny M A (noteFrame (.ref e) env) Q E s := by
  obtain ⟨oe, vs, T, oT, ts, he, hz, hd, h1, hnT, hTe, hT, hdT, h3⟩ := ht
  unfold noteFrame
  simp only [hf]
  refine wpAny_bind (wpAny_field he hd h1 ?_)
  rw [if_pos (show (Value.ref T != Value.none) = true from by simp)]
  refine wpAny_bind (wpAny_field hT hdT h3 ?_)
  rw [if_neg (by rw [hfl]; decide)]
  refine wpAny_bind (wpAny_setField hT hdT (Array.getElem?_eq_some_iff.mp h3).1 ?_)
  have other : ∀ b, b ≠ T → (s.heap.update T (Obj.mapFields (·.setIfInBounds 3 Value.none))).get? b = s.heap.get? b := fun b hb => Heap.get?_update_other _ _ (Ne.symm hb)
  have noRecord : ∀ b o, s.heap.get? b = some o → (∀ vs, o.data ≠ .fields vs) → b ≠ T := fun b o hb hnf q => by
    rw [q, hT] at hb; injection hb with hb; subst hb; exact hnf ts hdT
  refine wpAny_entryZ hZ hfr (hl.of_keeps fun b o hb hnf => ⟨o, (other b (noRecord b o hb hnf)).trans hb, rfl⟩) hf ((other e (Ne.symm hTe)).trans he)
    (fun b o hbo => (other b fun q => by rw [q, hnT] at hbo; cases hbo).trans (hkb b o hbo)) hen hd (Array.getElem?_eq_some_iff.mp h1).1 hz fun h' hN => ?_
  obtain ⟨x1, x2, x3, x4⟩ := hN
  exact hQ h' ⟨x1, hen, x2, x3⟩ fun b o hb hnf => x4 b o ((other b (noRecord b o hb hnf)).trans hb) hnf
end
end HandSPX
end PySem
namespace DL
open PySem PySem.Spec PyProof.Rows L2
theorem rawInt_ne {a b : Addr} (h : a ≠ b) : (rawInt a == rawInt b) = false := by
  have z : rawInt a ≠ rawInt b := fun z => h (by
    unfold rawInt at z
    injection z with z
    exact Int.ofNat.inj z)
  first
    | exact beq_eq_false_iff_ne.mpr z
    | simpa using z
/-- noted, wherever the mark stands -/
theorem sky_note {M : Model} {A : Around} {E₁ : Value → Shared → Prop} {env : Env} {outer : List Env} {L L2 a : Addr} {Z : Obj → Prop} {B : Heap} {s : Shared} {Q : Unit → Shared → Prop} (hZ : HandSPX.Steady Z) (hfr : A.frames = some (env :: outer)) (hf : env.frame = some L) (ne : L2 ≠ L)
    (x : Sky B (env :: outer) a Z L2 s.heap) (hQ : ∀ h', HandSPX.HeldZ B (env :: outer) a Z L h' → s.heap.UpToSlots h' → Q () { s with heap := h' }) : wpAny M A (noteFrame (.ref a) env) Q E₁ s := by
  rcases x with ⟨hB, hn, hl, oe, vs, he, hz, hd, h1⟩ | fl | hh
  · exact HandSPX.look_newZ hZ hfr hl hf he hB hn hd h1 hz hQ
  · exact HandSPX.looks_onZ hZ hfr hf fl hQ
  · exact HandSPX.looks_anyZ hZ hfr hf hh.1 hh.2.1 hh.2.2.1 hh.2.2.2 (rawInt_ne ne) hQ
theorem funFrames_at {base base' h h' : Heap} : ∀ {l : List Env}, h.FunFrames base l → (∀ L ∈ frs l, base'.get? L = none ∧ ∀ o, h.get? L = some o → h'.get? L = some o) → h'.FunFrames base' l
  | [], _, _ => trivial
  | env :: l, h, hn => by
    obtain ⟨hk, ⟨L, o, hf, _, ho, hd⟩, hr⟩ := h
    have z := hn L (List.mem_filterMap.mpr ⟨env, List.mem_cons_self, hf⟩)
    exact ⟨hk, ⟨L, o, hf, z.1, z.2 o ho, hd⟩, funFrames_at hr fun b hb => by
      obtain ⟨e, he, q⟩ := List.mem_filterMap.mp hb
      exact hn b (List.mem_filterMap.mpr ⟨e, List.mem_cons_of_mem _ he, q⟩)⟩
/-- a block whose errors go on -/
abbrev blkR (X : Cx) (s : Shared) (H : Hp) (scope : Scope) (cenv : Env) (fp : List Addr) (xe : Value → Shared → Prop) : Cx := { X.blk s H scope cenv fp with xe := xe }
section
variable {X : Cx} {pins : List (Addr × Obj)} {σ : L2.St} {H3 : Hp} {s3 : Shared} {fp : List Addr} {scope : Scope} {ce : Env} {W : WX} {use : Option (Value → Sem Unit)} {Qf : Value → Shared → Prop} {acc : Value}
theorem takes_blk (hs : X.stack = X.env :: X.outer) (hf : X.env.frame = some X.env.locals) (tk : Takes X W) (I3 : Inv X pins σ H3 s3) (f3 : ∀ b ∈ fp, FpOk X pins H3 b) (hC : ce.locals = s3.heap.objs.size) (hfe : ce.frame = X.env.frame) :
    Takes (blkR X s3 H3 scope ce fp (notedBy (model X.prog X.w) X.A ce fun e s' => compPostR (model X.prog X.w) X.A X.xe use Qf acc ce (.error e) s')) (fun cls d _ H' => W cls d σ H') := by
  intro u s' xx
  obtain ⟨a, B, sI, pins', σ', H', cls, d, rfl, IY, nb, up, sky, na, os, ag, w⟩ := xx
  have hfr : X.A.frames = some (X.env :: X.outer) := by rw [I3.ok.frames, hs]
  obtain ⟨m, ⟨oC, es, ep, eC, hdC, hlC⟩, _⟩ := IY.loc
  have eC : sI.heap.get? ce.locals = some oC := eC
  have fC : H' ce.locals = none := IY.free
  have ltL : X.env.locals < s3.heap.objs.size := I3.lt
  have neL : ce.locals ≠ X.env.locals := by rw [hC]; exact Nat.ne_of_gt ltL
  have nC : ce.locals ∉ frs X.stack := fun z => by
    rw [hC] at z
    rcases List.mem_cons.mp (I3.stkSub _ z) with e | e
    · rw [← e] at ltL
      exact Nat.lt_irrefl _ ltL
    · exact I3.nofs (Nat.le_refl _) e
  have bC : B.get? ce.locals = some oC := nb _ _ eC nC
  have lt3 : ∀ b o, s3.heap.get? b = some o → b ∉ [ce.locals] := fun b o e z => by
    have := Heap.lt_size e
    rw [List.mem_singleton.mp z, hC] at this
    exact Nat.lt_irrefl _ this
  show wpAny (model X.prog X.w) X.A (noteFrame (.ref a) ce) (fun _ s'' => compPostR (model X.prog X.w) X.A X.xe use Qf acc ce (.error (.ref a)) s'') _ s'
  rw [noteFrame_congr hfe]
  have sky' : Sky B (X.env :: X.outer) a (Zc cls d) ce.locals s'.heap := by rw [← hs]; exact sky
  refine sky_note Zc.steady hfr hf neL sky' fun h1 hh up1 => ?_
  have hC1 : h1.get? ce.locals = some oC := hh.1 _ _ bC
  show ∃ m, _
  refine ⟨m, ⟨oC, es, ep, hC1, hdC, hlC⟩, fun h2 sb => ?_⟩
  obtain ⟨k1, k2, k3, oe, vs, T, oT, ts, he, hz, hd, h1v, hnT, hTe, hT, hdT, h3t⟩ := hh
  have ne_a : a ≠ ce.locals := fun z => by
    rw [z, hC1] at he
    cases he
    rw [hdC] at hd
    cases hd
  have ne_T : T ≠ ce.locals := fun z => by
    rw [z, bC] at hnT
    cases hnT
  have hid : ∀ {G : Heap} {b : Addr} {o : Obj}, (PySem.W.hideAll G [ce.locals]).get? b = some o → b ≠ ce.locals ∧ G.get? b = some o := fun {G b o} e =>
    ⟨fun z => (by rw [z, PySem.W.hideAll_none _ (List.mem_singleton.mpr rfl)] at e; cases e), PySem.W.of_hideAll _ e⟩
  have hidn : ∀ {G : Heap} {b : Addr}, G.get? b = none → (PySem.W.hideAll G [ce.locals]).get? b = none := fun {G b} e => by
    cases q : (PySem.W.hideAll G [ce.locals]).get? b with
    | none => rfl
    | some o =>
      rw [(hid q).2] at e
      cases e
  have hin : ∀ {G : Heap} {b : Addr} {o : Obj}, G.get? b = some o → b ≠ ce.locals → (PySem.W.hideAll G [ce.locals]).get? b = some o := fun e n => PySem.W.hideAll_get _ e fun z => n (List.mem_singleton.mp z)
  have hh2 : HandSPX.HeldZ (PySem.W.hideAll B [ce.locals]) (X.env :: X.outer) a (Zc cls d) X.env.locals h2 := by
    refine ⟨fun b o e => ?_, hidn k2, funFrames_at k3 fun L hL => ⟨?_, fun o e => ?_⟩, oe, vs, T, oT, ts, (sb.2 a ne_a).trans he, hz, hd, h1v, hidn hnT, hTe, (sb.2 T ne_T).trans hT, hdT, h3t⟩
    · obtain ⟨n, e⟩ := hid e
      exact (sb.2 b n).trans (k1 b o e)
    · exact hidn (k3.mem hL).1
    · exact (sb.2 L fun z => nC (by rw [← z, hs]; exact hL)).trans e
  have nBz : ¬ (Value.ref T == Value.none) = true := by simp
  unfold PySem.passOn
  refine wpAny_bind (wpAny_field ((sb.2 a ne_a).trans he) hd h1v ?_)
  rw [if_neg nBz]
  have JI : Inv X pins σ H' { sI with heap := PySem.W.hideAll sI.heap [ce.locals] } := by
    have u : Un (frs X.stack) fp H3 H' s3.heap sI.heap := IY.base
    refine I3.call' (ch := fp) IY.os ⟨fun b o e n hb hc => PySem.W.hideAll_get _ (u.keep b o e n hb hc) (lt3 b o e), fun b o e n hb hc => ?_, u.free, fun b o e hc => ?_, u.tups, u.frzs, u.tbls⟩ (fun b v e => ?_) IY.bare
      fun b hb => ⟨(f3 b hb).2.2.2.1, (f3 b hb).2.1, (f3 b hb).2.2.2.2.1, (f3 b hb).2.2.2.2.2⟩
    · obtain ⟨sl, q⟩ := u.slot b o e n hb hc
      exact ⟨sl, PySem.W.hideAll_get _ q (lt3 b o e)⟩
    · obtain ⟨o', q⟩ := u.there b o e hc
      exact ⟨o', PySem.W.hideAll_get _ q (lt3 b o e)⟩
    · refine (IY.hok b v e).stay (fun c x hc q => hin q fun z => ?_) (fun _ q => q) fun _ _ q => q
      rw [← z] at fC
      rcases hc with y | y
      · rw [y, e] at fC
        cases fC
      · rw [fC] at y
        cases y
  have go : wpAny (model X.prog X.w) X.A (setFlight (.ref a) (some X.env.locals)) (fun _ s4 => wpAny (model X.prog X.w) X.A (throw (.ref a) : Sem Value) (fun _ _ => False) X.xe s4) X.xe { s' with heap := h2 } := by
    refine HandSPX.setFlight_onZ hh2 fun h3 hh3 up3 => wpAny_throw (tk _ _ ⟨a, _, _, pins, σ, H', cls, d, rfl, JI, fun b o e hb => ?_, fun b o e hnf => ?_, .inr (.inr (by rw [hs]; exact hh3)), na, os, ag, w⟩)
    · obtain ⟨n, e⟩ := hid e
      exact hin (nb b o e hb) n
    · obtain ⟨n, e⟩ := hid e
      obtain ⟨l1, q1⟩ := up b o e hnf
      obtain ⟨l2, q2⟩ := up1 b _ q1 hnf
      obtain ⟨l3, q3⟩ := up3 b _ ((sb.2 b n).trans q2) hnf
      exact ⟨l3, q3⟩
  rw [hfe, hf]
  first
    | exact wpAny_bind (wpAny_pure (wpAny_bind go))
    | exact wpAny_bind go
end
end DL
/-! DL: [e for ..], e may raise -/
namespace DL
open PySem PySem.Spec PyProof.Rows L2
theorem ok_xe {X : Cx} {xe : Value → Shared → Prop} (o : X.Ok) : ({ X with xe := xe } : Cx).Ok :=
  ⟨o.mod, o.kind, o.glob, o.blt, o.above, o.inj, o.has, o.cab, o.hd, o.frames, o.stk, o.exf, o.bs, o.bsz, o.noex, o.exfs, o.funs, o.frf⟩
theorem Inv.toXe {X : Cx} {xe : Value → Shared → Prop} {pins : List (Addr × Obj)} {σ : L2.St} {H : Hp} {s : Shared} (I : Inv X pins σ H s) : Inv ({ X with xe := xe } : Cx) pins σ H s :=
  ⟨ok_xe I.ok, I.os, I.bare, I.base, I.loc, I.cell, I.free, I.freeC, I.pin, I.hok, I.len⟩
section
variable {X : Cx}
theorem lc_coreR {Wx : WX} {pins : List (Addr × Obj)} {s : Shared} {σ : L2.St} {H : Hp} {Q : VK} {elt tg iter : Expr} {ifs : List Expr} {scope : Scope} {own : List (Str × Nat)} {pos pos' : Pos} {wi : TI} {g : TG} {tt : TT} {te : WX → TE} {use : Option (Value → Sem Unit)} {Qf : Value → Shared → Prop}
    (hst : X.stack = X.env :: X.outer) (hfr : X.env.frame = some X.env.locals) (tk : Takes X Wx) (hc : X.calm = true) (hN : X.N.Nodup) (I : Inv X pins σ H s) (hi : PI X tg iter wi) (ok : BlkOk X.N X.env.scope scope own)
    (hg : ∀ (s : Shared) (H : Hp) (C : Addr) (cl : List (Str × Addr)) (fp : List Addr) (xe : Value → Shared → Prop), PG (blkR X s H scope (compEnvC scope cl C X.env) fp xe) tg g) (ht : ∀ (s : Shared) (H : Hp) (C : Addr) (cl : List (Str × Addr)) (fp : List Addr) (xe : Value → Shared → Prop), PTs (blkR X s H scope (compEnvC scope cl C X.env) fp xe) ifs tt)
    (he : ∀ (s : Shared) (H : Hp) (C : Addr) (cl : List (Str × Addr)) (fp : List Addr) (xe : Value → Shared → Prop) (W' : WX), Takes (blkR X s H scope (compEnvC scope cl C X.env) fp xe) W' → PE (blkR X s H scope (compEnvC scope cl C X.env) fp xe) elt (te W')) (hs : ∀ x, foldedSetIterable iter X.env x = pure x)
    (h : tLc wi g tt (te fun cls d _ H' => Wx cls d σ H') (own.map (·.2)) σ H Q)
    (hRR : ∀ D (ce : Env) s' m H', Inv X pins σ H' s' → Q (.ref D) H' → s'.heap.Ns ce.locals m → FpOk X pins H' ce.locals → compPostR (model X.prog X.w) X.A X.xe use Qf (.ref D) ce (.ok .next) s') :
    wpAny (model X.prog X.w) X.A (comprehension (.ListComp elt [⟨tg, iter, ifs, 0⟩] scope pos) scope X.env pos' (newList []) false (eval iter X.env) use) Qf X.xe s := by
  have hfree : ∀ y ∈ scope.names, y.2 = .free → ∃ c, X.env.cells.lookup y.1 = some c := fun y hy e => by
    rcases ok.free y hy e with k | k
    · exact I.ok.has _ (.inl k)
    · exact I.ok.has _ (.inr k)
  refine comprehension_freeR (use := use) rfl hs (closure_ok hfree) ok.kind (fun y hy e => by rw [ok.uniq y hy, e])
    (thn (hi.run pins s σ H _ I h) fun xv s1 hx => thn hx fun itv s2 h2 => ?_)
  obtain ⟨it, fp, tn, J, H2, e, I2, T, st2, f2, q⟩ := h2
  subst e
  refine wpAny_newObj_type (newEnv_comp ?_) (by show 0 ≤ sizeLine; decide)
  generalize hD : s2.heap.objs.size = D
  have hDn : H2 D = none := I2.hok.fresh (Nat.le_of_eq hD)
  obtain ⟨W, ⟨m0, w0⟩, turn⟩ := q D hDn
  -- the new list
  generalize hs3 : ({ s2 with heap := s2.heap.push { cls := .type "list", data := .seq ([] : List Value).toArray } } : Shared) = s3
  have I3 : Inv X pins σ (upd H2 D (.lst [])) s3 := by
    rw [← hs3]
    refine I2.laid (t' := s2.toks) (fun b o e => Heap.get?_push_of_some _ e) (Nat.le_of_eq hD) ⟨Nat.zero_le _, [], 0, .nil, ?_⟩
    rw [← hD]
    exact Heap.get?_push_size _ rfl
  have h3 : s3.heap = s2.heap.push { cls := .type "list", data := .seq ([] : List Value).toArray } := by rw [← hs3]
  have sz : ∀ b ∈ fp, b < s2.heap.objs.size := fun b hb => by
    obtain ⟨o, e, _⟩ := T.obj _ _ st2 b hb
    exact Heap.lt_size e
  have f3 : ∀ b ∈ fp, FpOk X pins (upd H2 D (.lst [])) b ∧ b < s3.heap.objs.size := fun b hb => by
    have hlt := sz b hb
    refine ⟨⟨?_, (f2 b hb).2⟩, by rw [h3, Heap.size_push]; exact Nat.lt_succ_of_lt hlt⟩
    rw [upd_ne (by rw [← hD]; exact Nat.ne_of_lt hlt)]
    exact (f2 b hb).1
  have st3 : tn 0 s3.heap := T.keep _ _ _ st2 fun b _ o e => by rw [h3]; exact Heap.get?_push_of_some _ e
  have I4 := block_start I3 ok hN f3
  have pg := fun xe => hg s3 (upd H2 D (.lst [])) s3.heap.objs.size (cellsFrom (s3.heap.objs.size + 1) scope.names (cloFrom X.env.cells scope.names [])) fp xe
  have pt := fun xe => ht s3 (upd H2 D (.lst [])) s3.heap.objs.size (cellsFrom (s3.heap.objs.size + 1) scope.names (cloFrom X.env.cells scope.names [])) fp xe
  have pe := fun xe => he s3 (upd H2 D (.lst [])) s3.heap.objs.size (cellsFrom (s3.heap.objs.size + 1) scope.names (cloFrom X.env.cells scope.names [])) fp xe
  show codeAny _ _ (.compStart (.ListComp elt [⟨tg, iter, ifs, 0⟩] scope pos) 0 (.ref it) (.ref D) (compEnvC scope (cellsFrom (s3.heap.objs.size + 1) scope.names (cloFrom X.env.cells scope.names [])) s3.heap.objs.size X.env)) (compPostR (model X.prog X.w) X.A X.xe use Qf (.ref D) (compEnvC scope (cellsFrom (s3.heap.objs.size + 1) scope.names (cloFrom X.env.cells scope.names [])) s3.heap.objs.size X.env)) { s3 with heap := pushCells (s3.heap.push { cls := .type "dict", data := .dict #[] }) scope.names }
  have nfp : ∀ b ∈ fp, (upd H2 D (.lst [])) b = none := fun b hb => (f3 b hb).1.1
  generalize hce : compEnvC scope (cellsFrom (s3.heap.objs.size + 1) scope.names (cloFrom X.env.cells scope.names [])) s3.heap.objs.size X.env = ce at I4 pg pt pe ⊢
  have cL : ce.locals = s3.heap.objs.size := by subst hce; rfl
  have cF : ce.frame = X.env.frame := by subst hce; rfl
  generalize hH3 : upd H2 D (.lst []) = H3 at I3 I4 pg pt pe w0 nfp f3
  obtain ⟨xeB, hxe⟩ : ∃ xe, xe = (notedBy (model X.prog X.w) X.A ce fun e s' => compPostR (model X.prog X.w) X.A X.xe use Qf (.ref D) ce (.error e) s') := ⟨_, rfl⟩
  have tkB : Takes (blkR X s3 H3 scope ce fp xeB) (fun cls d _ H' => Wx cls d σ H') := by
    rw [hxe]
    exact takes_blk hst hfr tk I3 (fun b hb => (f3 b hb).1) cL cF
  have I4 := Inv.toXe (xe := xeB) I4
  generalize hs4 : ({ s3 with heap := pushCells (s3.heap.push { cls := .type "dict", data := .dict #[] }) scope.names } : Shared) = s4 at I4 ⊢
  have st4 : tn 0 s4.heap := T.keep _ _ _ st3 fun b _ o e => by rw [← hs4]; exact pushCells_keeps _ _ _ _ (Heap.get?_push_of_some _ e)
  have stat : ∀ {σ' : L2.St} {H' : Hp} {s' : Shared}, Inv (blkR X s3 H3 scope ce fp xeB) [] σ' H' s' → (∀ b ∈ fp, H' b = none) → ∀ b ∈ fp, FpOk (blkR X s3 H3 scope ce fp xeB) [] H' b := fun {σ' H' s'} I' hn b hb =>
    ⟨hn b hb, (I'.ok.exf b hb).1, I'.ok.exfs b hb, .inl hb, fun x c e => (I'.ok.exf b hb).2 x c e, fun p hp => absurd (show p ∈ ([] : List (Addr × Obj)) ++ [] from hp) (by simp)⟩
  have loop : codeAny (model X.prog X.w) X.A (.compLoop (.ListComp elt [⟨tg, iter, ifs, 0⟩] scope pos) 0 (.ref it) (.ref D) ce) (compPostR (model X.prog X.w) X.A X.xe use Qf (.ref D) ce) s4 := by
    refine compLoop_any (fun n s' => ∃ i H', Inv (blkR X s3 H3 scope ce fp xeB) [] (wipe σ (own.map (·.2))) H' s' ∧ tn i s'.heap ∧ (∀ b ∈ fp, H' b = none) ∧ W i n H') ?_ m0 ⟨0, H3, I4, st4, nfp, w0⟩
    rintro n s5 ⟨i, H5, I5, st5, n5, w5⟩
    rcases turn i n H5 w5 with ⟨stop, qq⟩ | ⟨go, Nx, hNx, step⟩
    · have td := T.done (blkR X s3 H3 scope ce fp xeB) rfl rfl rfl hc i [] s5 _ H5 (fun _ _ => False) I5 (stat I5 n5) st5 stop
      refine thnF td fun r s6 ⟨hr, I6⟩ => ?_
      subst hr
      -- back in the def's context
      have I7 : Inv X pins σ H5 s6 := I3.call' (ch := fp) I6.os I6.base I6.hok I6.bare fun b hb => ⟨(f3 b hb).1.2.2.2.1, (f3 b hb).1.2.1, (f3 b hb).1.2.2.2.2.1, (f3 b hb).1.2.2.2.2.2⟩
      have nC : H5 ce.locals = none := by
        have z : H5 ce.locals = none := I6.free
        exact z
      obtain ⟨m, hn, _⟩ := I6.loc
      have hn : s6.heap.Ns ce.locals m := hn
      exact hRR D ce s6 m H5 I7 qq hn (I3.fpOk (Nat.le_of_eq cL.symm) nC)
    · have ti := T.item (blkR X s3 H3 scope ce fp xeB) rfl rfl rfl hc i [] s5 _ H5 (fun _ _ => False) I5 (stat I5 n5) st5 go
      refine thnF ti fun r s6 ⟨u, hr, h6⟩ => ?_
      subst hr
      refine thnF h6 fun _ s7 ⟨x, H7, I7, r7, y7, st7, n7⟩ => ?_
      have I7' := I7.pinned (stat I7 n7) (T.obj _ _ st7)
      rw [← hxe]
      refine thn ((pg xeB).run _ s7 _ H7 x u _ I7' r7 (step x H7 y7)) fun _ s8 ⟨σ8, H8, I8, hw8, q8⟩ => ?_
      refine thn ((pt xeB).run _ s8 σ8 H8 _ I8 q8) fun b s9 ⟨H9, I9, q9⟩ => ?_
      -- the turn's end
      have fin : ∀ {s' : Shared} {H' : Hp}, Inv (blkR X s3 H3 scope ce fp xeB) ([] ++ pinsAt fp s7.heap) σ8 H' s' → Nx H' → ∃ m, m < n ∧ ∃ i H', Inv (blkR X s3 H3 scope ce fp xeB) [] (wipe σ (own.map (·.2))) H' s' ∧ tn i s'.heap ∧ (∀ b ∈ fp, H' b = none) ∧ W i m H' := fun {s' H'} I' nx => by
        obtain ⟨m', hm, w'⟩ := hNx H' nx
        have pin' : ∀ b ∈ fp, ∀ o, s7.heap.get? b = some o → s'.heap.get? b = some o ∧ H' b = none := fun b hb o e =>
          let z := I'.pin (b, o) (List.mem_append_right _ (List.mem_append_right _ (mem_pinsAt hb e)))
          ⟨z.1, z.2.1⟩
        have hl : (wipe σ (own.map (·.2))).length = σ8.length := by rw [← hw8, wipe_length]
        refine ⟨m', hm, i + 1, H', (I'.unpinned (pins := [])).weak hl (fun j v e => ?_), T.keep _ _ _ st7 fun b hb o e => (pin' b hb o e).1, fun b hb => ?_, w'⟩
        · rw [← hw8] at e
          exact (wipe_some e).1
        · obtain ⟨o, e, _⟩ := T.obj _ _ st7 b hb
          exact (pin' b hb o e).2
      cases b with
      | false =>
        simp only [Bool.false_eq_true, if_false] at q9 ⊢
        exact fin I9 q9
      | true =>
        simp only [if_true] at q9 ⊢
        refine thn ((pe xeB _ tkB).run _ s9 σ8 H9 _ I9 q9) fun z s10 ⟨yv, H10, I10, r10, acc, hD10, hz10, nx⟩ => ?_
        exact app_ok (X := blkR X s3 H3 scope ce fp xeB) I10 hD10 hz10 r10 fun s11 I11 => fin I11 nx
  exact codeAny_compStart_list loop (T.self X.A 0 _ _ _ st4 loop)
end
end DL
/-! DL: [e for ..], e may raise, over data -/
namespace DL
open PySem PySem.Spec PyProof.Rows L2
section
variable {X : Cx} {pos : Pos}
theorem pe_lcR {Wx : WX} {elt tg iter : Expr} {ifs : List Expr} {scope : Scope} {own : List (Str × Nat)} {wi : TI} {g : TG} {tt : TT} {te : WX → TE} (hst : X.stack = X.env :: X.outer) (hfr : X.env.frame = some X.env.locals) (tk : Takes X Wx) (hc : X.calm = true) (hN : X.N.Nodup) (hi : PI X tg iter wi) (ok : BlkOk X.N X.env.scope scope own)
    (hg : ∀ (s : Shared) (H : Hp) (C : Addr) (cl : List (Str × Addr)) (fp : List Addr) (xe : Value → Shared → Prop), PG (blkR X s H scope (compEnvC scope cl C X.env) fp xe) tg g) (ht : ∀ (s : Shared) (H : Hp) (C : Addr) (cl : List (Str × Addr)) (fp : List Addr) (xe : Value → Shared → Prop), PTs (blkR X s H scope (compEnvC scope cl C X.env) fp xe) ifs tt)
    (he : ∀ (s : Shared) (H : Hp) (C : Addr) (cl : List (Str × Addr)) (fp : List Addr) (xe : Value → Shared → Prop) (W' : WX), Takes (blkR X s H scope (compEnvC scope cl C X.env) fp xe) W' → PE (blkR X s H scope (compEnvC scope cl C X.env) fp xe) elt (te W')) (hs : ∀ x, foldedSetIterable iter X.env x = pure x := by intro _; rfl) :
    PE X (.ListComp elt [⟨tg, iter, ifs, 0⟩] scope pos) (fun σ H Q => tLc wi g tt (te fun cls d _ H' => Wx cls d σ H') (own.map (·.2)) σ H Q) := by
  refine ⟨fun pins s σ H Q I h => ?_⟩
  rw [eval_ListComp]
  refine lc_coreR hst hfr tk hc hN I hi ok hg ht he hs h fun D ce s' m H' I' q hn f => ⟨m, hn, fun h'' sb => ?_⟩
  obtain ⟨f0, f1, f2, f3, f4, f5⟩ := f
  exact ⟨.ref D, H', I'.turned (t' := s'.toks) (fun b o hb e => (sb.2 b hb).trans e) f0 f1 f3 f4 f5, rfl, q⟩
/-- name = [..] on one line, the name a local -/
theorem ps_setLcR {Wx : WX} {i : Nat} {y : Str} {py : Pos} {elt tg iter : Expr} {ifs : List Expr} {scope : Scope} {own : List (Str × Nat)} {spos : Pos} {wi : TI} {g : TG} {tt : TT} {te : WX → TE} (hst : X.stack = X.env :: X.outer) (hfr : X.env.frame = some X.env.locals) (tk : Takes X Wx) (hc : X.calm = true) (hN : X.N.Nodup) (hy : X.N[i]? = some y) (hyl : X.env.scope.names.lookup y = some .local)
    (hsw : swapsWith (.ListComp elt [⟨tg, iter, ifs, 0⟩] scope pos) (some (.Name y py)) spos.line X.env = pure true) (hi : PI X tg iter wi) (ok : BlkOk X.N X.env.scope scope own)
    (hg : ∀ (s : Shared) (H : Hp) (C : Addr) (cl : List (Str × Addr)) (fp : List Addr) (xe : Value → Shared → Prop), PG (blkR X s H scope (compEnvC scope cl C X.env) fp xe) tg g) (ht : ∀ (s : Shared) (H : Hp) (C : Addr) (cl : List (Str × Addr)) (fp : List Addr) (xe : Value → Shared → Prop), PTs (blkR X s H scope (compEnvC scope cl C X.env) fp xe) ifs tt)
    (he : ∀ (s : Shared) (H : Hp) (C : Addr) (cl : List (Str × Addr)) (fp : List Addr) (xe : Value → Shared → Prop) (W' : WX), Takes (blkR X s H scope (compEnvC scope cl C X.env) fp xe) W' → PE (blkR X s H scope (compEnvC scope cl C X.env) fp xe) elt (te W')) (hs : ∀ x, foldedSetIterable iter X.env x = pure x := by intro _; rfl) :
    PS X (.Assign [.Name y py] (.ListComp elt [⟨tg, iter, ifs, 0⟩] scope pos) spos) (tAsg (fun σ H Q => tLc wi g tt (te fun cls d _ H' => Wx cls d σ H') (own.map (·.2)) σ H Q) (gName i)) := by
  refine ⟨fun pins s σ H D I h => ?_⟩
  rw [exec_Assign_Name_used _ _ _ _ hsw]
  refine wpAny_bind (wpAny_standAt (wpAny_bind ?_))
  show wpAny _ X.A (do let _ ← comprehension (.ListComp elt [⟨tg, iter, ifs, 0⟩] scope pos) scope X.env (firstIterPos [⟨tg, iter, ifs, 0⟩] pos) (newList []) false (eval iter X.env) (some (assign (.Name y py) X.env))) _ _ s
  have h : tLc wi g tt (te fun cls d _ H' => Wx cls d σ H') (own.map (·.2)) σ H (fun x H1 => gName i x σ H1 D.nx) := h
  refine wpAny_bind (thn (lc_coreR (Qf := fun _ s' => SP X pins D .next s') hst hfr tk hc hN I hi ok hg ht he hs h fun L ce s' m H' I' q hn f => ?_) fun _ s' hq => wpAny_pure (wpAny_pure hq))
  show wpAny _ _ (assign (.Name y py) X.env (.ref L)) _ _ _
  refine wpAny_assign_Name (store_ok2 (v := V.ref L) I' hN hy (.inl hyl) rfl (fun s2 I2 ⟨a, sb, ha⟩ => ?_) (.inr hyl))
  obtain ⟨f0, f1, f2, f3, f4, f5⟩ := f
  have haC : ce.locals ≠ a := by
    rcases ha with z | z
    · rw [z]; exact f1
    · exact fun e => f4 y a z e.symm
  refine ⟨m, hn.sameBut sb haC, fun h3 sb3 => ?_⟩
  exact ⟨_, H', I2.turned (t' := s2.toks) (fun b o hb e => (sb3.2 b hb).trans e) f0 f1 f3 f4 f5, q⟩
end
/-! over data -/
def tExW (K : PySem.W.Frag) (mg : Str → Option Value) (W : WX) (w : DEx) : TE := fun σ H Q => ∃ G P F s Φ Ψ, Rep K G P F H σ s ∧ w s Φ Ψ ∧ (∀ v F' H' s' x, Rep K G P F' H' σ s' → Same F F' → Dq K F' v x → Φ x s' → Q v H') ∧
  ∀ c xs F' H' s', Rep K G P F' H' σ s' → Same F F' → Ψ c xs s' → wW K mg W c xs F' σ H'
theorem xex_W {Y : Cx} {W : WX} {e : Expr} {w : DEx} (tk : Takes Y W) (h : XEX Y e w) : PE Y e (tExW Y.K Y.mg W w) := pe_imp h fun σ H Q h => by
  obtain ⟨G, P, F, s, Φ, Ψ, R, h, k, kx⟩ := h
  exact ⟨G, P, F, s, Φ, Ψ, R, h, k, fun c xs F' H' s' R' e q => wW_X tk (kx c xs F' H' s' R' e q)⟩
def lcWX (vs : List Nat) (e0 : List Sl) (wg : DG) (wt : DT) (we : DEx) (Φ : List PyData → List Int → Prop) (Ψ : Str → List PyData → List Int → Prop) : List PyData → List PyData → List Int → Prop
  | [], acc, q => Φ acc q
  | x :: xs, acc, q => wg x ⟨wipeE e0 vs, q⟩ fun s1 => wipeE s1.e vs = wipeE e0 vs ∧ wt s1 fun b s2 => s2.e = s1.e ∧
    (if b = true then we s2 (fun y s3 => s3.e = s1.e ∧ acc.length < sizeLine ∧ lcWX vs e0 wg wt we Φ Ψ xs (acc ++ [y]) s3.q) (fun c zs s3 => s3.e = s1.e ∧ Ψ c zs s3.q) else lcWX vs e0 wg wt we Φ Ψ xs acc s2.q)
@[simp] def wLcX (vs : List Nat) (wi : DI) (wg : DG) (wt : DT) (we : DEx) : DAx := fun s Φ Ψ => wi s fun xs s1 => noOwn vs s1.e = true ∧ lcWX vs s1.e wg wt we (fun ys q => Φ ys ⟨s1.e, q⟩) (fun c zs q => Ψ c zs ⟨s1.e, q⟩) xs [] s1.q
def tLX (X : Cx) (w : DAx) : TE := fun σ H Q => ∃ G P F s Φ Ψ, Rep X.K G P F H σ s ∧ w s Φ Ψ ∧ (∀ p vs F' H' s' xs, Rep X.K G P F' H' σ s' → Same F F' → Nu G P F' σ s' p → H' p = some (.lst vs) → DqA X.K F' vs xs → Φ xs s' → Q (.ref p) H') ∧ Kx X G P F σ Ψ
abbrev XLX (X : Cx) (e : Expr) (w : DAx) : Prop := PE X e (tLX X w)
theorem lcX_of {X : Cx} {vs is : List Nat} {wi : DI} {wg : DG} {wt : DT} {we : DEx} (hsub : ∀ i ∈ is, i ∈ vs) (σ : L2.St) (H : Hp) (Q : VK) (h : tLX X (wLcX vs wi wg wt we) σ H Q) :
    tLc (tI X.K wi) (tG X.K is wg) (tT X.K wt) (tExW X.K X.mg (fun cls d _ H' => wishOf X cls d σ H') we) vs σ H Q := by
  obtain ⟨G, P, F, s, Φ, Ψ, R, h, k, kx⟩ := h
  refine ⟨G, P, F, s, _, R, h, fun J F1 H1 s1 xs R1 e1 Y q D hD => ?_⟩
  obtain ⟨hno, q⟩ := q
  obtain ⟨R1', n1⟩ := nu_new (o := .lst []) R1 hD
  refine ⟨fun i m H2 => m = xs.length - i ∧ i ≤ xs.length ∧ ∃ F2 vacc acc q2, Same F1 F2 ∧ H2 D = some (.lst vacc) ∧ DqA X.K F2 vacc acc ∧ Rep X.K G P F2 H2 σ ⟨s1.e, q2⟩ ∧ Nu G P F2 σ ⟨s1.e, q2⟩ D ∧
    lcWX vs s1.e wg wt we (fun ys q => Φ ys ⟨s1.e, q⟩) (fun c zs q => Ψ c zs ⟨s1.e, q⟩) (xs.drop i) acc q2, ⟨_, rfl, Nat.zero_le _, F1, [], [], s1.q, Same.refl F1, upd_same, .nil, R1', n1, by simpa using q⟩, ?_⟩
  rintro i m H2 ⟨rfl, hi, F2, vacc, acc, q2, e2, hD2, dacc, R2, n2, w2⟩
  by_cases hl : i < xs.length
  · obtain ⟨go, yl⟩ := (Y F2 H2 e2 R2.same i).1 xs[i] (List.getElem?_eq_getElem hl)
    rw [List.drop_eq_getElem_cons hl] at w2
    refine .inr ⟨go, fun H3 => ∃ F2 vacc acc q2, Same F1 F2 ∧ H3 D = some (.lst vacc) ∧ DqA X.K F2 vacc acc ∧ Rep X.K G P F2 H3 σ ⟨s1.e, q2⟩ ∧ Nu G P F2 σ ⟨s1.e, q2⟩ D ∧
      lcWX vs s1.e wg wt we (fun ys q => Φ ys ⟨s1.e, q⟩) (fun c zs q => Ψ c zs ⟨s1.e, q⟩) (xs.drop (i + 1)) acc q2, fun H3 z => ⟨xs.length - (i + 1), by omega, rfl, hl, z⟩, fun v H3 hy => ?_⟩
    obtain ⟨F3, f, dx⟩ := yl v H3 hy
    have RB : Rep X.K (upd G D (.lst vacc)) P F3 H3 (wipe σ vs) ⟨wipeE s1.e vs, q2⟩ := (R2.block (vs := vs) n2 hD2).fresh f
    refine ⟨_, P, F3, _, xs[i], _, RB, dx, w2, fun σ4 s4 R4 ag l4 q4 => ?_⟩
    obtain ⟨we4, q4⟩ := q4
    have ag' : ∀ i, i ∉ vs → σ4[i]? = σ[i]? := fun j hj => by
      rw [ag j (fun z => hj (hsub j z)), wipe_off hj]
    refine ⟨wipe_same (by rw [l4, wipe_length]) ag', ?_⟩
    refine ⟨_, P, F3, s4, _, R4, q4, fun b F5 H5 s5 R5 e5 q5 => ?_⟩
    obtain ⟨es5, q5⟩ := q5
    have e25 : Same F2 F5 := f.ff.trans e5
    cases b with
    | true =>
      rw [if_pos rfl] at q5 ⊢
      refine ⟨_, P, F5, s5, _, _, R5, q5, fun y F6 H6 s6 dy R6 e6 d6 q6 => ?_, fun c zs F6 H6 s6 R6 e6 q6 => ?_⟩
      · obtain ⟨es6, hz, q6⟩ := q6
        obtain ⟨R7, n7, hD7⟩ := R2.unblock (vs := vs) (acc' := vacc ++ [y]) n2 hno (e25.trans e6) R6 (by rw [es6]; exact we4) ag'
        exact ⟨vacc, hD7, by rw [dacc.length]; exact hz, F6, vacc ++ [y], acc ++ [dy], s6.q, e2.trans (e25.trans e6), upd_same, (dacc.mono (e25.trans e6)).append (.cons d6 .nil), R7, n7, q6⟩
      · obtain ⟨es6, q6⟩ := q6
        obtain ⟨R7, n7, hD7⟩ := R2.unblock (vs := vs) (acc' := vacc) n2 hno (e25.trans e6) R6 (by rw [es6]; exact we4) ag'
        have eu : upd H6 D (.lst vacc) = H6 := by
          funext b
          by_cases hb : b = D
          · rw [hb, upd_same, hD7]
          · rw [upd_ne hb]
        rw [eu] at R7
        exact kx c zs F6 H6 _ R7 (e1.trans (e2.trans (e25.trans e6))) q6
    | false =>
      rw [if_neg Bool.false_ne_true] at q5 ⊢
      obtain ⟨R7, n7, hD7⟩ := R2.unblock (vs := vs) (acc' := vacc) n2 hno e25 R5 (by rw [es5]; exact we4) ag'
      have eu : upd H5 D (.lst vacc) = H5 := by
        funext b
        by_cases hb : b = D
        · rw [hb, upd_same, hD7]
        · rw [upd_ne hb]
      rw [eu] at R7
      exact ⟨F5, vacc, acc, s5.q, e2.trans e25, hD7, dacc.mono e25, R7, n7, q5⟩
  · refine .inl ⟨(Y F2 H2 e2 R2.same i).2 (by omega), ?_⟩
    rw [List.drop_eq_nil_of_le (by omega)] at w2
    exact k D vacc F2 H2 ⟨s1.e, q2⟩ acc R2 (e1.trans e2) n2 hD2 dacc w2
@[simp] def wSetOX (i : Nat) (w : DAx) : DS := fun Φ s => w s (fun xs s1 => Φ.nx (s1.put i (.o xs))) Φ.ex
@[simp] def wSetLX (i : Nat) (w : DAx) : DS := fun Φ s => w s (fun xs s1 => Φ.nx (s1.put i (.d (.list xs)))) Φ.ex
section
variable {X : Cx} {pos : Pos}
/-- name = [..], e may raise: data -/
theorem xs_setLcX {i : Nat} {y : Str} {py : Pos} {elt tg iter : Expr} {ifs : List Expr} {scope : Scope} {own : List (Str × Nat)} {spos : Pos} {is : List Nat} {wi : DI} {wg : DG} {wt : DT} {we : DEx} (hst : X.stack = X.env :: X.outer) (hfr : X.env.frame = some X.env.locals) (hc : X.calm = true) (hN : X.N.Nodup) (hy : X.N[i]? = some y) (hyl : X.env.scope.names.lookup y = some .local)
    (hsw : swapsWith (.ListComp elt [⟨tg, iter, ifs, 0⟩] scope pos) (some (.Name y py)) spos.line X.env = pure true) (hi : XI X tg iter wi) (ok : BlkOk X.N X.env.scope scope own) (hsub : ∀ i ∈ is, i ∈ own.map (·.2))
    (hg : ∀ (s : Shared) (H : Hp) (C : Addr) (cl : List (Str × Addr)) (fp : List Addr) (xe : Value → Shared → Prop), XG (blkR X s H scope (compEnvC scope cl C X.env) fp xe) tg is wg) (ht : ∀ (s : Shared) (H : Hp) (C : Addr) (cl : List (Str × Addr)) (fp : List Addr) (xe : Value → Shared → Prop), XTs (blkR X s H scope (compEnvC scope cl C X.env) fp xe) ifs wt)
    (he : ∀ (s : Shared) (H : Hp) (C : Addr) (cl : List (Str × Addr)) (fp : List Addr) (xe : Value → Shared → Prop), XEX (blkR X s H scope (compEnvC scope cl C X.env) fp xe) elt we) (hs : ∀ x, foldedSetIterable iter X.env x = pure x := by intro _; rfl) :
    XS X (.Assign [.Name y py] (.ListComp elt [⟨tg, iter, ifs, 0⟩] scope pos) spos) (wSetLX i (wLcX (own.map (·.2)) wi wg wt we)) :=
  ps_imp (ps_setLcR (g := tG X.K is wg) (tt := tT X.K wt) (te := fun W' => tExW X.K X.mg W' we) hst hfr (takes_wish X) hc hN hy hyl hsw hi ok hg ht (fun s H C cl fp xe W' tk => xex_W (Y := blkR X s H scope (compEnvC scope cl C X.env) fp xe) tk (he s H C cl fp xe)) hs) fun D σ H h => by
    obtain ⟨G, P, F, s, Φ, R, h, b⟩ := h
    show tLc (tI X.K wi) (tG X.K is wg) (tT X.K wt) (tExW X.K X.mg (fun cls d _ H' => wishOf X cls d σ H') we) (own.map (·.2)) σ H (fun x H1 => gName i x σ H1 D.nx)
    refine lcX_of hsub σ H _ ⟨G, P, F, s, _, _, R, h, fun p vs F' H' s' x R' e n hp d q => ?_, fun c xs F' H' s' R' e q => b.ex c xs σ F' H' s' R' e q⟩
    obtain ⟨R2, dq⟩ := R'.take n hp d
    exact b.nx _ _ H' _ (R2.setD dq) (e.trans (same_new n.f)) q
theorem xs_setLcXO {i : Nat} {y : Str} {py : Pos} {elt tg iter : Expr} {ifs : List Expr} {scope : Scope} {own : List (Str × Nat)} {spos : Pos} {is : List Nat} {wi : DI} {wg : DG} {wt : DT} {we : DEx} (hst : X.stack = X.env :: X.outer) (hfr : X.env.frame = some X.env.locals) (hc : X.calm = true) (hN : X.N.Nodup) (hy : X.N[i]? = some y) (hyl : X.env.scope.names.lookup y = some .local)
    (hsw : swapsWith (.ListComp elt [⟨tg, iter, ifs, 0⟩] scope pos) (some (.Name y py)) spos.line X.env = pure true) (hi : XI X tg iter wi) (ok : BlkOk X.N X.env.scope scope own) (hsub : ∀ i ∈ is, i ∈ own.map (·.2))
    (hg : ∀ (s : Shared) (H : Hp) (C : Addr) (cl : List (Str × Addr)) (fp : List Addr) (xe : Value → Shared → Prop), XG (blkR X s H scope (compEnvC scope cl C X.env) fp xe) tg is wg) (ht : ∀ (s : Shared) (H : Hp) (C : Addr) (cl : List (Str × Addr)) (fp : List Addr) (xe : Value → Shared → Prop), XTs (blkR X s H scope (compEnvC scope cl C X.env) fp xe) ifs wt)
    (he : ∀ (s : Shared) (H : Hp) (C : Addr) (cl : List (Str × Addr)) (fp : List Addr) (xe : Value → Shared → Prop), XEX (blkR X s H scope (compEnvC scope cl C X.env) fp xe) elt we) (hs : ∀ x, foldedSetIterable iter X.env x = pure x := by intro _; rfl) :
    XS X (.Assign [.Name y py] (.ListComp elt [⟨tg, iter, ifs, 0⟩] scope pos) spos) (wSetOX i (wLcX (own.map (·.2)) wi wg wt we)) :=
  ps_imp (ps_setLcR (g := tG X.K is wg) (tt := tT X.K wt) (te := fun W' => tExW X.K X.mg W' we) hst hfr (takes_wish X) hc hN hy hyl hsw hi ok hg ht (fun s H C cl fp xe W' tk => xex_W (Y := blkR X s H scope (compEnvC scope cl C X.env) fp xe) tk (he s H C cl fp xe)) hs) fun D σ H h => by
    obtain ⟨G, P, F, s, Φ, R, h, b⟩ := h
    show tLc (tI X.K wi) (tG X.K is wg) (tT X.K wt) (tExW X.K X.mg (fun cls d _ H' => wishOf X cls d σ H') we) (own.map (·.2)) σ H (fun x H1 => gName i x σ H1 D.nx)
    exact lcX_of hsub σ H _ ⟨G, P, F, s, _, _, R, h, fun p vs F' H' s' x R' e n hp d q => b.nx _ F' H' _ (R'.setO n hp d) e q, fun c xs F' H' s' R' e q => b.ex c xs σ F' H' s' R' e q⟩
end
end DL
/-! DL: enumerate(x, start=k) -/
namespace DL
open PySem PySem.Spec PyProof.Rows L2
/-- the list at a as it stands at each turn, each item in a new pair with its place, from k0 on -/
def IteK (K : PySem.W.Frag) (a : Addr) (k0 : Int) : It :=
  ⟨fun i H => ∃ (xs : List V) (x : V), SqL K H a xs ∧ xs[i]? = some x, fun i H v H' => ∃ T x, v = .ref T ∧ H T = none ∧ H' = upd H T (.tup [.int (k0 + (i : Nat)), x]) ∧ ∀ xs, SqL K H a xs → xs[i]? = some x, fun i H => ∃ xs : List V, SqL K H a xs ∧ xs.length ≤ i⟩
theorem enum_endL {prog : Program} {w : World} {A : Around} {E : Value → Shared → Prop} {s : Shared} {e it l : Addr} {i : Nat} {c : Int} {items : Array Value} {old : Value} {Q : Option Value → Shared → Prop} (hh : A.handled = none)
    (he : IsEnum s.heap e it c old) (hit : s.heap.IsListIter it l i) (hl : s.heap.IsList l items) (hx : items[i]? = none)
    (hQ : ∀ h', Heap.ExtBut it s.heap h' → Q none { s with heap := h' }) : wpAny (model prog w) A (pyNext (.ref e)) Q E s := by
  have hT : s.TypeIs (.ref e) "enumerate" := ⟨_, he, rfl⟩
  unfold pyNext
  refine wpAny_bind (wpAny_attempt (wpAny_callSpecial?_slot (name := Str.ofString "__next__") hT F.slot_enumerate_next
    (wpAny_call_entry F.slot_enumerate_next hT F.entry_enumerate_next ?_ (F.args_enumerate_next_1 _))))
  show wpAny _ _ (field (.ref e) 2 >>= _) _ _ _
  refine wpAny_bind (wpAny_field he rfl (x := .ref it) rfl ?_)
  refine wpAny_bind (wpAny_nextOf_list_end hh hit hl hx fun h' x he' hx' => ?_)
  obtain ⟨o, ho, hc⟩ := hx'
  refine wpAny_bind (wpAny_isInstance (T := "StopIteration") (b := true) ⟨o, ho, hc⟩ isSubtype_stop ?_)
  exact wpAny_pure (hQ _ he')
theorem turn_enumK {P : Program} {w : World} {K : PySem.W.Frag} {elts : List Expr} {kk : Nat} {tpos : Pos} (k0 : Int) (a e it : Addr) :
    Turn P w K (.Tuple elts kk tpos) (IteK K a k0) [e, it] e (fun i h => (∃ old, IsEnum h e it (k0 + (i : Nat)) old) ∧ h.IsListIter it a i ∧ e ≠ it) where
  mem := by simp
  obj := fun i h st b hb => by
    obtain ⟨⟨old, he⟩, ⟨o, ho, hc, hd⟩, _⟩ := st
    have e' : b = e ∨ b = it := by simpa using hb
    rcases e' with z | z
    · rw [z]; exact ⟨_, he, fun v q => nomatch q⟩
    · rw [z]; exact ⟨o, ho, fun v q => by rw [hd] at q; cases q⟩
  keep := fun i h h' st k => let ⟨⟨old, he⟩, hi, hne⟩ := st; ⟨⟨old, k e (by simp) _ he⟩, hi.at fun o q => k it (by simp) o q, hne⟩
  item := by
    intro X hP hw hK hc i pins s σ H E I hf st hg
    subst hP hw hK
    obtain ⟨⟨old, he⟩, hit, hne⟩ := st
    obtain ⟨xs, x, hq, hx⟩ := hg
    obtain ⟨its, rv, p, hz⟩ := I.list hq
    obtain ⟨u, hu, ru⟩ := rv.get hx
    have hel : e < s.heap.objs.size := Heap.lt_size he
    have hil : it < s.heap.objs.size := by obtain ⟨_, q, _⟩ := hit; exact Heap.lt_size q
    have ne1 : a ≠ e := fun z => by
      obtain ⟨o, h1, h2, _⟩ := p.isList
      rw [z, he] at h1
      cases h1
      have h2' : Value.type "enumerate" = Value.type "list" := h2
      injection h2' with z2
      exact absurd z2 (by decide)
    have ne2 : a ≠ it := fun z => by
      obtain ⟨o, h1, h2, _⟩ := p.isList
      obtain ⟨o', h3, h4, _⟩ := hit
      rw [z, h3] at h1
      cases h1
      rw [h4] at h2
      exact absurd h2 (by decide)
    have hlt : i < its.toArray.size := by
      have := (List.getElem?_eq_some_iff.mp hu).1
      rw [List.size_toArray]
      exact this
    refine wpAny_pyNext_enum_itemC (Draws.list (A := X.A.in1) (show X.A.in1.handled = none from I.ok.hd hc) it a ne2 its.toArray) he ⟨hit, p.isList⟩ hlt hne (fun z => by
      rcases List.mem_cons.mp z with z | z
      · exact hne z
      · exact ne1 (List.mem_singleton.mp z).symm) fun y h' tk hy ho st' hT hsz hk => ?_
    obtain rfl : y = u := by
      have hu' : its.toArray[i]? = some u := by simpa using hu
      rw [hu'] at hy
      exact (Option.some.inj hy).symm
    have hit' := st'.1
    refine ⟨_, rfl, wpAny_letOwnedTupleGo_enum (s := { s with heap := h', toks := tk + 1 }) ho fun h'' he' sb => ?_⟩
    have hT2 : h''.get? s.heap.objs.size = some { cls := .type "tuple", data := .seq #[.int (k0 + (i : Nat)) tk, y] } := (sb.2 _ (Nat.ne_of_gt hel)).trans hT
    have new : ObjOk X.prog X.w (upd H s.heap.objs.size (.tup [.int (k0 + (i : Nat)), x])) h'' s.heap.objs.size (.tup [.int (k0 + (i : Nat)), x]) :=
      ⟨by show 2 ≤ sizeLine; decide, [.int (k0 + (i : Nat)) tk, y], .cons ⟨_, rfl⟩ (.cons ru .nil), ⟨_, hT2, rfl, _, rfl⟩⟩
    have I1 : Inv X pins σ (upd H s.heap.objs.size (.tup [.int (k0 + (i : Nat)), x])) { s with heap := h'', toks := tk + 1 } :=
      I.turnedNew (ch := [e, it]) (fun b ob hb q => (sb.2 b (fun z => hb (by simp [z]))).trans (hk b ob (fun z => hb (by simp [z])) (fun z => hb (by simp [z])) q)) hf (Nat.le_refl _) new
    refine ⟨.ref s.heap.objs.size, _, I1, rfl, ⟨_, x, rfl, I.hok.fresh (Nat.le_refl _), rfl, fun ys hy => by rw [I.list_inj hy hq]; exact hx⟩, ⟨⟨y, ?_⟩, hit'.at fun o q => (sb.2 it (Ne.symm hne)).trans q, hne⟩, fun b hb => ?_⟩
    · have e1 : k0 + ((i + 1 : Nat) : Int) = (k0 + (i : Nat)) + 1 := by omega
      rw [e1]; exact he'
    · have hb' : b < s.heap.objs.size := by
        have e' : b = e ∨ b = it := by simpa using hb
        rcases e' with z | z
        · rw [z]; exact hel
        · rw [z]; exact hil
      rw [upd_ne (Nat.ne_of_lt hb')]
      exact (hf b hb).1
  done := by
    intro X hP hw hK hc i pins s σ H E I hf st hg
    subst hP hw hK
    obtain ⟨⟨old, he⟩, hit, hne⟩ := st
    obtain ⟨xs, hq, hx⟩ := hg
    obtain ⟨its, rv, p, hz⟩ := I.list hq
    obtain ⟨f0, f1, f2, f3, f4, f5⟩ := hf it (by simp)
    have hl := rv.length
    exact enum_endL (I.ok.hd hc) he hit p.isList (by simp; omega) fun h' eb => ⟨rfl, I.turned (t' := s.toks) (fun b o hb q => eb b o hb q) f0 f1 f3 f4 f5⟩
  self := fun A i s Q E st h => let ⟨⟨_, he⟩, _⟩ := st; wpAny_pyIter_enum he h
theorem callWith_typeK {M : Model} {A : Around} {E : Value → Shared → Prop} {s : Shared} {env : Env} {pos : Pos} {T : String} {e : Expr} {rest : List Expr} {kws : List Keyword} {Q : Value → Shared → Prop}
    (h : wpAny M A (spliced (backTo pos (starEach (e :: rest) env))) (fun vs s₁ => wpAny M A (evalAll ((backToKw pos (keywordEach kws env)).map (·.2)))
      (fun kvs s₂ => wpAny M A (call (.type T) vs (((backToKw pos (keywordEach kws env)).filterMap (·.1)).zip kvs)) Q E s₂) E s₁) E s)
    (he : backTo pos (starEach (e :: rest) env) = (false, eval e env) :: backTo pos (starEach rest env) := by rfl)
    (hplain : (backTo pos (starEach (e :: rest) env)).any (·.1) = false := by rfl)
    (hall : (backToKw pos (keywordEach kws env)).all (·.1.isSome) = true := by rfl)
    (hkw : (backToKw pos (keywordEach kws env)).any (·.1.isNone) = false := by rfl) :
    wpAny M A (callWith pos (.type T) [] (backTo pos (starEach (e :: rest) env)) (backToKw pos (keywordEach kws env))) Q E s := by
  unfold callWith
  rw [he] at h hplain ⊢
  refine wpAny_bind (wpAny_holding (wpAny_mono (PyProof.Rows.evalArgs_kwB (Q := fun a s₁ => wpAny M A (call (.type T) a.pos a.kw) Q E s₁) hall h) (fun a s₁ h₁ => wpAny_bind (wpAny_standAt ?_)) fun _ _ x => x))
  simp only [hplain, hkw, Bool.or_false]
  refine wpAny_bind (wpAny_pure ?_)
  exact wpAny_bind (wpAny_mono h₁ (fun r s₂ hr => wpAny_bind (wpAny_holding (wpAny_point (wpAny_pure hr)))) fun _ _ x => x)
/-- enumerate(x, start=k) -/
def iEnumK (K : PySem.W.Frag) (ta tk : TA) : TI := fun σ H R => ta σ H fun vs H1 => tk σ H1 fun ks H2 => ∃ a xs k, vs = [.ref a] ∧ ks = [.int k] ∧ -(2 ^ 63) ≤ k ∧ k < 2 ^ 63 ∧ SqL K H2 a xs ∧ R (IteK K a k) H2
theorem pi_enumK {X : Cx} {e ke : Expr} {ta tk : TA} {p pos tpos kpos : Pos} {elts : List Expr} {kk : Nat} (hg : Gl X "enumerate") (hm : X.mg "enumerate" = none) (ha : PA X [e] ta) (hk : PK X [⟨some "start", ke, kpos⟩] tk)
    (he : backTo pos (starEach [e] X.env) = (false, eval e X.env) :: backTo pos (starEach [] X.env) := by rfl)
    (hplain : (backTo pos (starEach [e] X.env)).any (·.1) = false := by rfl)
    (hall : (backToKw pos (keywordEach [⟨some "start", ke, kpos⟩] X.env)).all (·.1.isSome) = true := by rfl)
    (hkw : (backToKw pos (keywordEach [⟨some "start", ke, kpos⟩] X.env)).any (·.1.isNone) = false := by rfl)
    (hks : (backToKw pos (keywordEach [⟨some "start", ke, kpos⟩] X.env)).filterMap (·.1) = [("start" : Str)] := by rfl) :
    PI X (.Tuple elts kk tpos) (.Call (.Name "enumerate" p) [e] [⟨some "start", ke, kpos⟩] pos) (iEnumK X.K ta tk) := by
  refine ⟨fun pins s σ H R I h => ?_⟩
  refine wpAny_Call_Name_kw (ld_blt I hg hm boot_enumerate ?_)
  refine callWith_typeK (thn (ha.run pos pins s σ H _ I h) fun us s1 ⟨vs, H1, I1, r1, q1⟩ => thn (hk.run pos pins s1 σ H1 _ I1 q1) fun ws s2 ⟨zs, H2, I2, r2, q2⟩ => ?_) he hplain hall hkw
  rw [hks]
  obtain ⟨a, xs, k, rfl, rfl, k0, k1, hq, q⟩ := q2
  cases r1 with
  | cons r rr =>
    cases rr
    cases r
    cases r2 with
    | cons rk rr =>
      cases rr
      obtain ⟨t, rfl⟩ := rk
      obtain ⟨its, rv, p', hz⟩ := I2.list hq
      show wpAny _ _ (call (.type "enumerate") [.ref a] [(Str.ofString "start", .int k t)]) _ _ _
      refine enum_begins_start (begins_list a its.toArray) p'.isList k0 k1 fun h' he ho hsz hkp => wpAny_pyIter_enum he ?_
      have I3 : Inv X pins σ H2 { s2 with heap := h' } := I2.kept (t' := s2.toks) hkp
      have hit : h'.IsListIter s2.heap.objs.size a 0 := ⟨_, ho, rfl, rfl⟩
      refine ⟨s2.heap.objs.size + 1, [s2.heap.objs.size + 1, s2.heap.objs.size], _, _, H2, rfl, I3, turn_enumK k a (s2.heap.objs.size + 1) s2.heap.objs.size, ⟨⟨.none, ?_⟩, hit, Nat.succ_ne_self _⟩, fun b hb => ?_, q⟩
      · have e0 : k + ((0 : Nat) : Int) = k := by omega
        rw [e0]
        exact he
      have e' : b = s2.heap.objs.size + 1 ∨ b = s2.heap.objs.size := by simpa using hb
      have hle : s2.heap.objs.size ≤ b := by
        rcases e' with z | z
        · rw [z]; exact Nat.le_add_right _ _
        · rw [z]; exact Nat.le_refl _
      exact I2.fpOk hle (I2.hok.fresh hle)
/-! over data -/
def enumKD (k : Int) (xs : List PyData) : List PyData := (List.range xs.length).map fun (i : Nat) => PyData.tuple [.int (k + (i : Int)), xs.getD i .none]
theorem enumKD_len (k : Int) (xs : List PyData) : (enumKD k xs).length = xs.length := by
  unfold enumKD
  rw [List.length_map, List.length_range]
theorem enumKD_get {k : Int} {xs : List PyData} {i : Nat} {x : PyData} (h : (enumKD k xs)[i]? = some x) : ∃ y, xs[i]? = some y ∧ x = .tuple [.int (k + (i : Int)), y] := by
  have hi : i < xs.length := by rw [← enumKD_len k xs]; exact (List.getElem?_eq_some_iff.mp h).1
  unfold enumKD at h
  rw [List.getElem?_map, List.getElem?_range hi] at h
  refine ⟨xs[i], List.getElem?_eq_getElem hi, ?_⟩
  have e : xs.getD i .none = xs[i] := by
    rw [List.getD_eq_getElem?_getD, List.getElem?_eq_getElem hi]
    rfl
  rw [Option.map_some, e] at h
  exact (Option.some.inj h).symm
theorem yl_enumK {K : PySem.W.Frag} {F : Hp} {a : Addr} {k : Int} {vs : List V} {xs : List PyData} (h : F a = some (.lst vs)) (d : DqA K F vs xs) : Yl K F (IteK K a k) (enumKD k xs) := fun F1 H1 e1 e2 i => by
  have hH : SqL K H1 a vs := SqL.of (e2 _ _ (e1 _ _ h))
  refine ⟨fun x hx => ?_, fun hl => ⟨vs, hH, by rw [d.length]; rw [enumKD_len] at hl; exact hl⟩⟩
  obtain ⟨y, hy, rfl⟩ := enumKD_get hx
  obtain ⟨v, a1, a2⟩ := d.get hy
  refine ⟨⟨vs, v, hH, a1⟩, fun u H2 q => ?_⟩
  obtain ⟨T, x, rfl, nT, rfl, q⟩ := q
  have q2 := q vs hH
  rw [a1] at q2
  cases q2
  have f := Fresh.new (o := .tup [.int (k + (i : Nat)), v]) e2 nT
  exact ⟨_, f, .tup (SqT.of upd_same) (.cons (.int _) (.cons ((a2.mono e1).mono f.ff) .nil))⟩
/-- the start a literal -/
@[simp] def wEnumK (k : Int) (w : DA) : DI := fun s Φ => w s fun xs s1 => match xs with
  | [.list xs] => -(2 ^ 63) ≤ k ∧ k < 2 ^ 63 ∧ Φ (enumKD k xs) s1
  | _ => False
theorem xi_enumK {X : Cx} {e ke : Expr} {k : Int} {w : DA} {p pos tpos kpos : Pos} {elts : List Expr} {kk : Nat} (hg : Gl X "enumerate") (hm : X.mg "enumerate" = none) (ha : XA X [e] w) (hk : PE X ke (tC (.int k)))
    (he : backTo pos (starEach [e] X.env) = (false, eval e X.env) :: backTo pos (starEach [] X.env) := by rfl)
    (hplain : (backTo pos (starEach [e] X.env)).any (·.1) = false := by rfl)
    (hall : (backToKw pos (keywordEach [⟨some "start", ke, kpos⟩] X.env)).all (·.1.isSome) = true := by rfl)
    (hkw : (backToKw pos (keywordEach [⟨some "start", ke, kpos⟩] X.env)).any (·.1.isNone) = false := by rfl)
    (hks : (backToKw pos (keywordEach [⟨some "start", ke, kpos⟩] X.env)).filterMap (·.1) = [("start" : Str)] := by rfl) :
    XI X (.Tuple elts kk tpos) (.Call (.Name "enumerate" p) [e] [⟨some "start", ke, kpos⟩] pos) (wEnumK k w) := pi_imp (pi_enumK hg hm ha (pk_cons hk pk_nil) he hplain hall hkw hks) fun σ H R h => by
  obtain ⟨G, P, F, s, Φ, RR, h, kk⟩ := h
  refine ⟨G, P, F, s, _, RR, h, fun vs F1 H1 s1 xs R1 e1 d1 q => ?_⟩
  match xs, d1, q with
  | [.list xs], .cons (.lst h1 h2) .nil, q => exact ⟨_, _, k, rfl, rfl, q.1, q.2.1, SqL.of (R1.same _ _ h1), kk _ F1 H1 s1 _ R1 e1 (yl_enumK h1 h2) q.2.2⟩
end DL
/-! DL: a, b = a new table, a new list -/
namespace DL
open PySem PySem.Spec PyProof.Rows L2
/-- a new table -/
def tTb (K : PySem.W.Frag) (w : DA) : TE := fun σ H Q => ∃ G P F s Φ, Rep K G P F H σ s ∧ w s Φ ∧
  ∀ p qs xss F' H' s', Rep K G P F' H' σ s' → Same F F' → (∀ r, r ∈ p :: qs → Nu G P F' σ s' r) → H' p = some (.lst (qs.map V.ref)) → (p :: qs).Nodup → RowsOk K G P F' H' qs xss → Φ (xss.map .list) s' → Q (.ref p) H'
section
variable {X : Cx} {pos : Pos}
theorem xtb_lc {elt tg iter : Expr} {ifs : List Expr} {scope : Scope} {own : List (Str × Nat)} {is : List Nat} {wi : DI} {wg : DG} {wt : DT} {wl : DA} (hc : X.calm = true) (hN : X.N.Nodup) (hi : XI X tg iter wi) (ok : BlkOk X.N X.env.scope scope own) (hsub : ∀ i ∈ is, i ∈ own.map (·.2))
    (hg : ∀ (s : Shared) (H : Hp) (C : Addr) (cl : List (Str × Addr)) (fp : List Addr), XG (X.blk s H scope (compEnvC scope cl C X.env) fp) tg is wg) (ht : ∀ (s : Shared) (H : Hp) (C : Addr) (cl : List (Str × Addr)) (fp : List Addr), XTs (X.blk s H scope (compEnvC scope cl C X.env) fp) ifs wt)
    (he : ∀ (s : Shared) (H : Hp) (C : Addr) (cl : List (Str × Addr)) (fp : List Addr), XL (X.blk s H scope (compEnvC scope cl C X.env) fp) elt wl) (hs : ∀ x, foldedSetIterable iter X.env x = pure x := by intro _; rfl) :
    PE X (.ListComp elt [⟨tg, iter, ifs, 0⟩] scope pos) (tTb X.K (wLc (own.map (·.2)) wi wg wt (wFz wl))) := pe_imp (pe_lc hc hN hi ok hg ht he hs) fun σ H Q h => lcT_of hsub σ H Q h
@[simp] def wParTO (i j : Nat) (w1 w2 : DA) : DS := fun Φ s => w1 s fun ys s1 => ∃ xss : List (List PyData), ys = xss.map .list ∧ w2 s1 fun zs s2 => ∀ p qs, Φ.nx ((s2.put i (.tb p qs xss)).put j (.o zs))
theorem xs_parTO {i j : Nat} {x y : Str} {a b : Expr} {w1 w2 : DA} {px py pt : Pos} {kt k2 : Nat} {pt2 : Pos} (hc : X.calm = true) (hN : X.N.Nodup) (hi : X.N[i]? = some x) (hj : X.N[j]? = some y) (hij : i ≠ j)
    (hx : X.env.scope.names.lookup x = some .local) (hy : X.env.scope.names.lookup y = some .local) (ha : PE X a (tTb X.K w1)) (hb : XL X b w2)
    (hw : swappedStores [.Tuple [.Name x px, .Name y py] kt pt] (.Tuple [a, b] k2 pt2) X.env = pure (some [x, y]))
    (he : starEach [a, b] X.env = (false, eval a X.env) :: starEach [b] X.env := by rfl) (he2 : starEach [b] X.env = (false, eval b X.env) :: starEach [] X.env := by rfl)
    (hsole : swapsWithSole [.Tuple [.Name x px, .Name y py] kt pt] (.Tuple [a, b] k2 pt2) pos.line X.env = pure false := by rfl) : XS X (.Assign [.Tuple [.Name x px, .Name y py] kt pt] (.Tuple [a, b] k2 pt2) pos) (wParTO i j w1 w2) :=
  ps_imp (ps_par hc hN hi hj hij hx hy (pa_cons ha (pa_cons hb pa_nil he2) he) hw hsole) fun D σ H h => by
    obtain ⟨G, P, F, s, Φ, R, h, b⟩ := h
    refine ⟨G, P, F, s, _, R, h, fun p1 qs xss F1 H1 s1 R1 e1 n1 hp1 nd rows q => ?_⟩
    obtain ⟨yss, e1', q⟩ := q
    have e2' := map_list_inj e1'
    subst e2'
    obtain ⟨G', eG, kG, R1'⟩ := R1.addGs nd fun r hr => ⟨(n1 r hr).f, (n1 r hr).g, (n1 r hr).np, (by
      rcases List.mem_cons.mp hr with rfl | hr
      · exact ⟨_, hp1⟩
      · exact (rows.at' r hr).2.2.2), (n1 r hr).sl, (n1 r hr).tb⟩
    refine ⟨G', P, F1, s1, _, R1', q, fun p2 vs F2 H2 s2 ys R2 e2 n hp2 d2 q2 => ⟨.ref p1, .ref p2, rfl, ?_⟩⟩
    have Rw := R2.weakG eG R.tab
    have nuT : ∀ r, r ∈ p1 :: qs → Nu G P F2 σ s2 r := fun r hr => by
      obtain ⟨o, g1, g2⟩ := kG r hr
      refine ⟨R2.apart _ _ g1, (n1 r hr).g, (n1 r hr).np, fun l zs hl z => ?_, fun l x hl z => ?_⟩
      · obtain ⟨p', vs', k1, k2, k3, _⟩ := R2.sl l _ hl
        rw [z] at k1
        cases k1
        rw [g1] at k3
        cases k3
      · have := (tad_at (R2.sl l x hl) z).2.1
        rw [g1] at this
        cases this
    have hp1' : H2 p1 = some (.lst (qs.map V.ref)) := by
      obtain ⟨o, g1, g2⟩ := kG p1 List.mem_cons_self
      rw [hp1] at g2
      cases g2
      exact R2.keep.go g1
    have rows2 : RowsOk X.K G P F2 H2 qs xss := rows.up e2 fun r o hr g1 g2 g3 g4 => by
      obtain ⟨o', k1, k2⟩ := kG r (List.mem_cons_of_mem _ hr)
      rw [g4] at k2
      cases k2
      have n := nuT r (List.mem_cons_of_mem _ hr)
      exact ⟨n.f, n.g, n.np, R2.keep.go k1⟩
    have R3 := Rw.setT (i := i) nuT hp1' nd rows2
    have n0 : Nu G P F2 σ s2 p2 := ⟨n.f, eG.free n.g, n.np, n.sl, n.tb⟩
    have ne2 : p2 ∉ p1 :: qs := fun z => by
      obtain ⟨o, g1, _⟩ := kG p2 z
      have := n.g
      rw [g1] at this
      cases this
    have n3 : Nu G P F2 (σ.set i (some (.ref p1))) (s2.put i (.tb p1 qs xss)) p2 := by
      refine ⟨n0.f, n0.g, n0.np, fun l xs hl z => ?_, fun l x hl z => ?_⟩
      · rcases set_get hl with ⟨_, z2⟩ | ⟨ne, hl⟩
        · cases z2
        · rw [List.getElem?_set_ne (Ne.symm ne)] at z
          exact n0.sl l xs hl z
      · rcases set_get hl with ⟨_, z2⟩ | ⟨ne, hl⟩
        · rw [z2] at z
          exact ne2 z
        · exact n0.tb l x hl z
    exact b.nx _ F2 H2 _ (R3.setO (i := j) n3 hp2 d2) (e1.trans e2) (q2 p1 qs)
end
end DL
/-! DL: lambdas with parameters and captured names: made, called -/
namespace DL
open PySem PySem.Spec PyProof.Rows L2 LamX NdefX
/-- the object at f is the lambda F with the body e -/
def LamO (f : Addr) (F : NF) (e : Expr) : HO := .ext fun h => ∃ (pm ctv : Value), h.get? f = some (PySem.W.kla_obj "<lambda>" F.qual F.params e F.scope F.cl pm F.c ctv)
theorem lamO_at {P : Program} {w : World} {H : Hp} {h : Heap} {f : Addr} {F : NF} {e : Expr} (hok : HOk P w H h) (z : H f = some (LamO f F e)) : ∃ (pm ctv : Value), h.get? f = some (PySem.W.kla_obj "<lambda>" F.qual F.params e F.scope F.cl pm F.c ctv) := by
  obtain ⟨z, _, _⟩ := hok f _ z
  exact z
/-- the words of a lambda within X -/
abbrev lamF (X : Cx) (params : Arguments) (scope : Scope) (c : Addr) : NF := ⟨"<lambda>", X.env.qual ++ "<lambda>", params, [], scope, cloFrom X.env.cells scope.names [], c⟩
section
variable {X : Cx} {pins : List (Addr × Obj)} {σ : L2.St} {H F0 : Hp} {s : Shared}
theorem inv_lam {F : NF} {e : Expr} {pm ctv : Value} {t' : Nat} (I : Inv X pins σ H s) :
    Inv X pins σ (upd H s.heap.objs.size (LamO s.heap.objs.size F e)) { s with heap := s.heap.push (PySem.W.kla_obj "<lambda>" F.qual F.params e F.scope F.cl pm F.c ctv), toks := t' } := by
  refine I.laid (a := s.heap.objs.size) (fun b u e => Heap.get?_push_of_some _ e) (Nat.le_refl _) ?_
  have e1 : (s.heap.push (PySem.W.kla_obj "<lambda>" F.qual F.params e F.scope F.cl pm F.c ctv)).get? s.heap.objs.size = some (PySem.W.kla_obj "<lambda>" F.qual F.params e F.scope F.cl pm F.c ctv) := Heap.get?_push_size _ rfl
  exact ⟨⟨pm, ctv, e1⟩, ⟨_, e1⟩, fun h1 h2 ⟨p, c, z⟩ st => ⟨p, c, st _ z⟩⟩
/-- a table that has grown by a new code object -/
theorem fresh_code {P c' : Addr} {ps : Array Value} {pos : Pos} (sF : Same F0 H) (hP : H P = some (.tbl ps)) (fP : F0 P = none) (nC : H c' = none) :
    Fresh F0 H (upd F0 c' (CodeO c' (lamN pos.line pos.col))) (upd (upd H P (.tbl (ps ++ #[rawInt pos.line, rawInt pos.col, .ref c']))) c' (CodeO c' (lamN pos.line pos.col))) := by
  have nF : F0 c' = none := sF.free nC
  have ff : Same F0 (upd F0 c' (CodeO c' (lamN pos.line pos.col))) := same_new nF
  have nP : c' ≠ P := fun z => by rw [z, hP] at nC; cases nC
  have atH : ∀ b, b ≠ P → b ≠ c' → upd (upd H P (.tbl (ps ++ #[rawInt pos.line, rawInt pos.col, .ref c']))) c' (CodeO c' (lamN pos.line pos.col)) b = H b := fun b h1 h2 => by rw [upd_ne h2, upd_ne h1]
  have atP : upd (upd H P (.tbl (ps ++ #[rawInt pos.line, rawInt pos.col, .ref c']))) c' (CodeO c' (lamN pos.line pos.col)) P = some (.tbl (ps ++ #[rawInt pos.line, rawInt pos.col, .ref c'])) := by rw [upd_ne (Ne.symm nP), upd_same]
  refine ⟨ff, fun b o q => ?_, fun b o q => ?_, fun b o q n => ?_, fun t => ⟨fun b ps2 q => ?_, fun b o q => ?_⟩⟩
  · by_cases hb : b = c'
    · rw [hb, upd_same] at q ⊢
      exact q
    · rw [upd_ne hb] at q
      rw [atH b (fun z => by rw [z, fP] at q; cases q) hb]
      exact sF b o q
  · have hb : b ≠ c' := ne_of_none q nC
    by_cases h2 : b = P
    · rw [h2, hP] at q
      cases q
      rw [h2]
      exact ⟨fun z => (by cases z), _, atP, rfl⟩
    · rw [atH b h2 hb]
      exact ⟨fun _ => q, o, q, rfl⟩
  · rw [upd_ne (ne_of_none q nC)]
    exact n
  · by_cases hb : b = c'
    · rw [hb, upd_same] at q
      cases q
    · by_cases h2 : b = P
      · rw [h2, atP] at q
        cases q
        have k := t.1 P ps hP
        have eL : (ps ++ #[rawInt pos.line, rawInt pos.col, .ref c']).toList = ps.toList ++ [rawInt pos.line, rawInt pos.col, .ref c'] := by simp
        refine ⟨by rw [eL]; exact PySem.TriplesOk_snoc _ _ _ _ k.1, fun p' cv hcv => ?_⟩
        rw [eL] at hcv
        rcases among_app2 _ k.1 hcv with z | ⟨z, z1, z2⟩
        · obtain ⟨c0, e1, e2⟩ := k.2 p' cv z
          exact ⟨c0, e1, ff _ _ e2⟩
        · refine ⟨c', z, ?_⟩
          rw [← z1, ← z2]
          exact upd_same
      · rw [atH b h2 hb] at q
        exact (t.1 b ps2 q).up ff
  · by_cases hb : b = c'
    · rw [hb, upd_same] at q
      cases q
      rfl
    · rw [upd_ne hb] at q
      exact t.2 b o q
/-- the lambda is made: its code object is new, or found in the table -/
theorem lam_mk {c P : Addr} {ps : Array Value} {params : Arguments} {body : Expr} {scope : Scope} {pos : Pos} {E : Value → Shared → Prop} {Q : Value → Shared → Prop} (I : Inv X pins σ H s) (TB : TabB X.base X.mg c P) (hcode : X.env.code = .ref c)
    (hP : H P = some (.tbl ps)) (tk : TOk F0 ps) (sF : Same F0 H) (fP : F0 P = none) (hn : lamN pos.line pos.col = X.env.qual ++ "<lambda>") (hdef : defaultsOf params X.env = ([], [])) (hfree : ∀ y ∈ scope.names, y.2 = .free → ∃ c, X.env.cells.lookup y.1 = some c)
    (h : ∀ (f c' : Addr) (H1 F1 : Hp) (s' : Shared), Inv X pins σ H1 s' → Fresh F0 H F1 H1 → F1 f = some (LamO f (lamF X params scope c') body) → F1 c' = some (CodeO c' (X.env.qual ++ "<lambda>")) → Q (.ref f) s') :
    wpAny (model X.prog X.w) X.A (eval (.Lambda params body scope pos) X.env) Q E s := by
  refine PySem.W.kla_eval hdef ?_
  have bP : s.heap.BuiltinsAt X.mg P := TB.bm.keeps I.bk
  have hP' : s.heap.get? P = some { cls := .none, data := .fields ps } := I.hok P _ hP
  cases hc : codeAmong pos ps.toList with
  | none =>
    refine PySem.W.kla_makeFunction (mg := X.mg) (c := c) (P := P) (ps := ps) (closure_ok hfree) I.ok.glob (I.mod.glob.keeps I.bk) hcode (TB.code.keeps I.bk) hP' tk.1 hc TB.gP bP fun c' ctv h' tk hx hge hlt hrec htb => ?_
    obtain ⟨c2, oc, vs, t, e2, hoc, hd, hv⟩ := hrec
    cases e2
    have nC : H c' = none := I.hok.fresh hge
    have I1 := inv_table (t' := tk) (more := #[rawInt pos.line, rawInt pos.col, .ref c']) (h' := h') (q := X.env.qual ++ "<lambda>") I hP (fun b o hb e => hx b o hb e) htb hge ⟨oc, vs, t, hoc, hd, hv⟩
    have I2 := inv_lam (F := lamF X params scope c') (e := body) (pm := (X.mg "__name__").getD .none) (ctv := ctv) (t' := tk) I1
    have f1 := fresh_code (pos := pos) sF hP fP nC
    rw [hn] at f1
    have nF := I1.hok.fresh (Nat.le_refl _)
    have f2 := Fresh.new (o := LamO h'.objs.size (lamF X params scope c') body) f1.fh nF
    refine h h'.objs.size c' _ _ _ I2 (f1.trans f2) upd_same ?_
    rw [upd_ne (Nat.ne_of_lt hlt)]
    exact upd_same
  | some cv =>
    obtain ⟨c', e, hco⟩ := tk.2 pos cv hc
    subst e
    rw [hn] at hco
    refine PySem.W.kla_makeFunctionHit (mg := X.mg) (c := c) (P := P) (ps := ps) (closure_ok hfree) I.ok.glob (I.mod.glob.keeps I.bk) hcode (TB.code.keeps I.bk) hP' tk.1 hc bP fun ctv h' tk hx hsz => ?_
    have I1 : Inv X pins σ H { s with heap := h', toks := tk } := I.kept hx
    have I2 := inv_lam (F := lamF X params scope c') (e := body) (pm := (X.mg "__name__").getD .none) (ctv := ctv) (t' := tk) I1
    have nF := I1.hok.fresh (Nat.le_refl _)
    have f2 := Fresh.new (o := LamO h'.objs.size (lamF X params scope c') body) sF nF
    refine h h'.objs.size c' _ _ _ I2 f2 upd_same ?_
    rw [upd_ne (ne_of_none (sF _ _ hco) nF)]
    exact hco
end
/-- the promise of the lambda F at f with the body e -/
structure LOk (P : Program) (w : World) (K : PySem.W.Frag) (mg : Str → Option Value) (base : Heap) (CX : CXT) (k : Nat) (f : Addr) (F : NF) (e : Expr) (ps fr : List Str) (sp : List (Option V) → Sp) : Prop where
  len : ∀ ws vs H Q E, sp ws vs H Q E → vs.length = ps.length
  run : ∀ (A : Around) (outer : List Env) (s : Shared) (H : Hp) (us : List Value) (vs : List V) (ws : List (Option V)) (Q : VK) (E : XK), Room k A → Env0 P w K mg base A outer s H → H f = some (LamO f F e) → H F.c = some (CodeO F.c F.qual) →
    CellsAt F.cl fr ws s.heap H → Vals vs us → sp ws vs H Q E → codeAny (model P w) A (.call (.ref f) ⟨us, []⟩) (CR CX outer P w H s Q E) s
section
variable {CX : CXT} {P : Program} {w : World} {K : PySem.W.Frag} {mg : Str → Option Value} {base : Heap} {N ps fr : List Str} {F : NF} {f : Addr} {k : Nat} {sp : List (Option V) → Sp} {e : Expr}
theorem lok_of (S : NScope N ps fr F.scope) (hb : ∀ (pm ctv : Value) (us : List Value), us.length = ps.length → bindArgs (PySem.W.kla_fn "<lambda>" F.qual F.params e F.scope F.cl pm (.ref F.c) ctv) ⟨us, []⟩ = pure (ps.zip us)) (len : ∀ ws vs H Q E, sp ws vs H Q E → vs.length = ps.length)
    (hbody : ∀ (A : Around) (outer : List Env) (s : Shared) (H : Hp) (vs : List V) (ws : List (Option V)) (Q : VK) (E : XK), Room k (A.deeper (envF F f s.heap.objs.size)) → H f = some (LamO f F e) → H F.c = some (CodeO F.c F.qual) → ws.length = fr.length → sp ws vs H Q E →
      ∃ te, PE (ncx CX P w K mg base N F f A outer s H E) e te ∧ te (startF N vs ws) H Q) :
    LOk P w K mg base CX (k + 1) f F e ps fr sp := by
  refine ⟨len, fun A outer s H us vs ws Q E hr e0 hf hc C r hsp => ?_⟩
  have hl := len _ _ _ _ _ hsp
  have lim : s.heap.NoLimit := e0.mod.nolimit.keeps fun b o e => (e0.bs b o e).1
  obtain ⟨pm, ctv, ho⟩ := lamO_at e0.hok hf
  refine PySem.W.kla_callFunE hr.depth ho rfl S.co S.gen rfl (codeO_at e0.hok hc) ?_
  rw [hb pm ctv us (by rw [← r.length]; exact hl)]
  refine wpAny_pure (wpAny_newFunctionEnv S.nocell (fun ⟨n, _⟩ hy => S.par n (List.of_mem_zip hy).1) (fun h₁ hns hsb => ⟨lim.fresh _ hsb, ?_⟩) S.kind)
  show codeAny _ _ (.expr e (envF F f s.heap.objs.size)) _ _
  have kp : ∀ b o, s.heap.get? b = some o → h₁.get? b = some o := fun b o e => hsb.extBut b o (Nat.ne_of_lt (Heap.lt_size e)) (Heap.get?_push_of_some _ e)
  obtain ⟨t, ht, hq⟩ := hbody A outer s H vs ws Q E (hr.deeper _) hf hc C.len hsp
  have I : Inv (ncx CX P w K mg base N F f A outer s H E) [] (startF N vs ws) H { s with heap := h₁, toks := s.toks + (ps.zip us).length } := inv_startN S hr.hd e0 hl r C hns kp
  refine PySem.W.kla_codeExpr (wpAny_mono (ht.run [] _ (startF N vs ws) H _ I hq) (fun v s' hs => ?_) fun e s' hs => hs)
  obtain ⟨w', H', J, rv, q⟩ := hs
  exact ⟨w', H', J.os, J.bare, J.base, J.hok, rv, q⟩
end
end DL
/-! DL: sorted(xs, key=lambda x: ..), keys any data (lists too) -/
namespace DL
open PySem PySem.Spec PyProof.Rows L2 LamX NdefX PySem.W
/-- what a lambda of data promises: the data handed in, the captured data -/
abbrev DSpM := List PyData → List PyData → (PyData → Prop) → Prop
def spLm (K : PySem.W.Frag) (sp : DSpM) : List (Option V) → Sp := fun ws vs H Q _ => ∃ F ds cds Φ cvs, (Same F H ∧ TabsF K F H) ∧ DqA K F vs ds ∧ ws = cvs.map some ∧ DqA K F cvs cds ∧ sp ds cds Φ ∧ ∀ v F' H' x, Fresh F H F' H' → Dq K F' v x → Φ x → Q v H'
section
variable {K : PySem.W.Frag} {G F H : Hp} {P : Option Addr} {σ : L2.St} {s1 : S}
theorem caps_of (R : Rep K G P F H σ s1) : ∀ {js : List Nat} {cds : List PyData}, js.map (fun j => s1.e[j]?) = cds.map (fun c => some (Sl.d c)) → ∃ cvs : List V, js.map (slotAt σ) = cvs.map some ∧ DqA K F cvs cds
  | [], [], _ => ⟨[], rfl, .nil⟩
  | j :: js, c :: cds, h => by
    rw [List.map_cons, List.map_cons] at h
    injection h with h1 h2
    obtain ⟨v, e, d⟩ := R.sl j _ h1
    obtain ⟨cvs, e2, d2⟩ := caps_of R h2
    exact ⟨v :: cvs, by rw [List.map_cons, List.map_cons, slotAt_of e, e2], .cons d d2⟩
  | [], _ :: _, h => by cases h
  | _ :: _, [], h => by cases h
end
section
variable {X : Cx} {pins : List (Addr × Obj)} {σ : L2.St} {G F F0 H : Hp} {P : Option Addr} {s : Shared} {s1 : S} {f : Addr} {Fn : NF} {e : Expr} {x : Str} {fr : List Str} {js : List Nat} {sp : DSpM} {k : Nat}
/-- one call of the lambda -/
theorem lam_turn {A : Around} {cds : List PyData} {dx : PyData} {Φ : PyData → Prop} {v : V} {u : Value} (I : Inv X pins σ H s) (hA : Env0 X.prog X.w X.K X.mg X.base A X.stack s H) (R : Rep X.K G P F H σ s1) (L : LOk X.prog X.w X.K X.mg X.base CX0 k f Fn e [x] fr (spLm X.K sp)) (cp : Caps X Fn.cl fr js) (hr : Room k A)
    (hf : F f = some (LamO f Fn e)) (hc : F Fn.c = some (CodeO Fn.c Fn.qual)) (hjs : js.map (fun j => s1.e[j]?) = cds.map (fun c => some (Sl.d c))) (r : RelV v u) (d : Dq X.K F v dx) (q : sp [dx] cds Φ) :
    wpAny (model X.prog X.w) A (call (.ref f) [u]) (fun u' s' => ∃ v' F' H' x', Inv X pins σ H' s' ∧ Rep X.K G P F' H' σ s1 ∧ Same F F' ∧ RelV v' u' ∧ Dq X.K F' v' x' ∧ Φ x') (fun _ _ => False) s := by
  obtain ⟨cvs, e1, d1⟩ := caps_of R hjs
  have hsp : spLm X.K sp (js.map (slotAt σ)) [v] H (fun v' H' => ∃ F' x', Fresh F H F' H' ∧ Dq X.K F' v' x' ∧ Φ x') E0 := ⟨F, [dx], cds, Φ, cvs, ⟨R.same, R.tabF⟩, .cons d .nil, e1, d1, q, fun v F' H' x a b c => ⟨F', x, a, b, c⟩⟩
  refine wpAny_call (codeAny_mono (L.run A X.stack s H [u] [v] _ _ E0 hr hA (R.same _ _ hf) (R.same _ _ hc) (cells_of I cp) (.cons r .nil) hsp) fun rs s' hq => ?_)
  cases rs with
  | error e => exact (show False from hq).elim
  | ok fl =>
    cases fl with
    | ret u' =>
      obtain ⟨v', H', I', rv, F', x', fr', d', qx⟩ := I.after hq
      exact ⟨v', F', H', x', I', R.fresh fr', fr'.ff, rv, d', qx⟩
    | next => exact False.elim hq
    | brk => exact False.elim hq
    | cont => exact False.elim hq
/-- an untracked list is filled and tracked from now on; the object at b has changed too -/
theorem inv_filled {a b : Addr} {o : HO} {h' : Heap} {t' : Nat} (I : Inv X pins σ H s) (fa : FpOk X pins H a) (fb : FpOk X pins H b) (kp : ∀ c u, c ≠ a → c ≠ b → s.heap.get? c = some u → h'.get? c = some u) (new : ObjOk X.prog X.w (upd H a o) h' a o) :
    Inv X pins σ (upd H a o) { s with heap := h', toks := t' } := by
  obtain ⟨na, la, xa, ea, ca, pa⟩ := fa
  obtain ⟨nb, lb, xb, eb, cb, pb⟩ := fb
  have at_ : ∀ {c u}, H c = some u → c ≠ a ∧ c ≠ b := fun {c u} q => ⟨ne_of_none q na, ne_of_none q nb⟩
  have out : ∀ {c : Addr}, c ∉ [a, b] → c ≠ a ∧ c ≠ b := fun {c} n => ⟨fun z => n (by simp [z]), fun z => n (by simp [z])⟩
  refine I.step (g' := s.gens) (d' := s.drawn) (ch := [a, b]) (fun c hc => ?_) (fun c u _ _ hc q _ => kp c u (out hc).1 (out hc).2 q) (fun c u _ _ hc q _ => ⟨u.slots, kp c u (out hc).1 (out hc).2 q⟩) (fun c u hc _ n => by rw [upd_ne (out hc).1]; exact n)
    (fun c u hc q => ⟨u, kp c u (out hc).1 (out hc).2 q⟩) (fun c xs q => by rw [upd_ne (at_ q).1]; exact q) (fun c u w q => by rw [upd_ne (at_ q).1]; exact q) (fun c ps q => ⟨#[], by rw [upd_ne (at_ q).1, q]; simp⟩) (fun m hm => ?_) (fun c u q => ?_) I.bare
  · rcases List.mem_cons.mp hc with rfl | hc
    · exact ⟨ea, la, ca, pa⟩
    · rw [List.mem_singleton.mp hc]
      exact ⟨eb, lb, cb, pb⟩
  · obtain ⟨o', es, ep, ho, r⟩ := hm
    exact ⟨o', es, ep, kp _ o' (Ne.symm la) (Ne.symm lb) ho, r⟩
  · by_cases hc : c = a
    · rw [hc, upd_same] at q
      cases q
      rw [hc]
      exact new
    · rw [upd_ne hc] at q
      have nq : ∀ d, (d = c ∨ H d = some (.own c)) → d ≠ a ∧ d ≠ b := fun d hd => by
        rcases hd with rfl | hd
        · exact ⟨hc, ne_of_none q nb⟩
        · exact at_ hd
      exact (I.hok c u q).stay (fun d v hd z => kp d v (nq d hd).1 (nq d hd).2 z) (fun d z => by rw [upd_ne (at_ z).1]; exact z) fun d xs z => by rw [upd_ne (at_ z).1]; exact z
theorem each_reads (I : Inv X pins σ H s) (e : Same F H) : ∀ {us : List Value} {vs : List V} {ds : List PyData}, DqA X.K F vs ds → Vals vs us → (∀ d, d ∈ ds → d.hasDict = false) → EachIs (fun v d => ∃ as, Reads s.heap v d as) us ds
  | [], [], [], _, _, _ => .nil
  | u :: us, v :: vs, d :: ds, h, r, n => by
    cases h with
    | cons h1 h2 =>
      cases r with
      | cons r1 r2 => exact .cons (Dp.reads I d v u ((h1.mono e).dp (n d List.mem_cons_self)) r1) (each_reads I e h2 r2 fun x hx => n x (List.mem_cons_of_mem _ hx))
  | _ :: _, [], _, _, r, _ => by cases r
  | [], _ :: _, _, _, r, _ => by cases r
  | _ :: _, _ :: _, [], h, _, _ => by cases h
  | [], [], _ :: _, h, _, _ => by cases h
theorem each_data : ∀ {us : List Value} {vs : List V} {ds : List PyData}, DqA X.K F vs ds → Vals vs us → EachIs (fun u d => ∃ v, RelV v u ∧ Dq X.K F v d) us ds
  | [], [], [], _, _ => .nil
  | u :: us, v :: vs, d :: ds, h, r => by
    cases h with
    | cons h1 h2 =>
      cases r with
      | cons r1 r2 => exact .cons ⟨v, r1, h1⟩ (each_data h2 r2)
  | _ :: _, [], _, _, r => by cases r
  | [], _ :: _, _, _, r => by cases r
  | _ :: _, _ :: _, [], h, _ => by cases h
  | [], [], _ :: _, h, _ => by cases h
theorem data_each : ∀ {us : List Value} {ds : List PyData}, EachIs (fun u d => ∃ v, RelV v u ∧ Dq X.K F v d) us ds → ∃ vs : List V, Vals vs us ∧ DqA X.K F vs ds
  | _, _, .nil => ⟨[], .nil, .nil⟩
  | _, _, .cons ⟨v, r, d⟩ t => by
    obtain ⟨vs, r2, d2⟩ := data_each t
    exact ⟨v :: vs, .cons r r2, .cons d d2⟩
theorem each_at {α β : Type} {R : α → β → Prop} : ∀ {as : List α} {bs : List β} {i : Nat} {a : α}, EachIs R as bs → as[i]? = some a → ∃ b, bs[i]? = some b ∧ R a b
  | _, _, i, a, .nil, h => by cases i <;> cases h
  | _, _, 0, a, .cons r t, h => by
    rw [List.getElem?_cons_zero] at h
    cases h
    exact ⟨_, rfl, r⟩
  | _, _, i + 1, a, .cons r t, h => by
    rw [List.getElem?_cons_succ] at h
    obtain ⟨b, e, q⟩ := each_at t h
    exact ⟨b, by rw [List.getElem?_cons_succ]; exact e, q⟩
end
end DL
/-! DL: sorted(xs, key=lambda x: ..), the run -/
namespace DL
open PySem PySem.Spec PyProof.Rows L2 LamX NdefX PySem.W
section
variable {X : Cx} {pins : List (Addr × Obj)} {σ : L2.St} {G F H : Hp} {P : Option Addr} {s : Shared} {s1 : S} {f : Addr} {Fn : NF} {e : Expr} {x : Str} {fr : List Str} {js : List Nat} {sp : DSpM} {k : Nat}
/-- what stands while the keys are made -/
structure Kst (X : Cx) (pins : List (Addr × Obj)) (σ : L2.St) (G : Hp) (P : Option Addr) (F : Hp) (s1 : S) (kS a : Addr) (e1 : Nat) (kz : List PyData) (i : Nat) (s' : Shared) (H' F' : Hp) (kvs : List V) (kA : Array Value) (e0 : Nat) : Prop where
  inv : Inv X pins σ H' s'
  rep : Rep X.K G P F' H' σ s1
  same : Same F F'
  ok : s'.heap.get? kS = some (seqObj "list" kA e0)
  oa : s'.heap.get? a = some (seqObj "list" #[] e1)
  nk : H' kS = none
  na : H' a = none
  sz : kA.size = i
  vals : Vals kvs kA.toList
  dq : DqA X.K F' kvs (kz.take i)
theorem vals_app {as bs : List V} {us ws : List Value} (h : Vals as us) (g : Vals bs ws) : Vals (as ++ bs) (us ++ ws) := by
  induction h with
  | nil => exact g
  | cons r _ ih => exact .cons r ih
theorem dqa_app {K : PySem.W.Frag} {F : Hp} {as bs : List V} {xs ys : List PyData} (h : DqA K F as xs) (g : DqA K F bs ys) : DqA K F (as ++ bs) (xs ++ ys) := by
  induction xs generalizing as with
  | nil => cases h; exact g
  | cons x xs ih => cases h with
    | cons h1 h2 => exact .cons h1 (ih h2)
theorem keys_made {a kS : Addr} {e1 : Nat} {E : Value → Shared → Prop} {Pq : PySem.Fin → Shared → Prop} {cds ds : List PyData} {vs : List Value} {kf : PyData → PyData} {A : Around} (hka : kS ≠ a)
    (K0 : Kst X pins σ G P F s1 kS a e1 (ds.map kf) 0 s H F [] #[] 0) (fk : ∀ H', H' kS = none → FpOk X pins H' kS) (fa : ∀ H', H' a = none → FpOk X pins H' a)
    (hA : ∀ {H : Hp} {s : Shared}, Inv X (pins ++ pinsAt [kS, a] s.heap) σ H s → Env0 X.prog X.w X.K X.mg X.base A X.stack s H) (L : LOk X.prog X.w X.K X.mg X.base CX0 k f Fn e [x] fr (spLm X.K sp)) (cp : Caps X Fn.cl fr js) (hr : Room k A)
    (hf : F f = some (LamO f Fn e)) (hc : F Fn.c = some (CodeO Fn.c Fn.qual)) (hjs : js.map (fun j => s1.e[j]?) = cds.map (fun c => some (Sl.d c)))
    (hd : EachIs (fun u d => ∃ v, RelV v u ∧ Dq X.K F v d) vs ds) (hz : vs.length ≤ sizeLine) (hsp : ∀ d, d ∈ ds → sp [d] cds fun y => y = kf d)
    (h : ∀ (s' : Shared) (H' F' : Hp) (kvs : List V) (kA : Array Value) (e0 : Nat), Kst X pins σ G P F s1 kS a e1 (ds.map kf) vs.length s' H' F' kvs kA e0 → wpAny (model X.prog X.w) A (ksk_end a false vs.toArray e1 (.ref kS) kA) Pq E s') :
    wpAny (model X.prog X.w) A (ksk_rest a (.ref f) false vs.toArray e1 (.ref kS)) Pq E s := by
  unfold ksk_rest
  refine wpAny_bind (wpAny_rule ?_)
  first
    | rw [List.forIn_toArray]
    | (rw [← Array.forIn_toList]; simp only [List.toList_toArray])
    | rw [← Array.forIn_toList]
  refine wpAny_bind (ksk_fold (fun i s' => ∃ H' F' kvs kA e0, Kst X pins σ G P F s1 kS a e1 (ds.map kf) i s' H' F' kvs kA e0) vs 0 s ⟨H, F, [], #[], 0, K0⟩ ?step ?done)
  case step =>
    rintro j u s' hx ⟨H', F', kvs, kA, e0, T⟩
    simp only [Nat.zero_add] at T ⊢
    have hj : j < vs.length := (List.getElem?_eq_some_iff.mp hx).1
    obtain ⟨d, hdj, v, rv, dv⟩ := each_at hd hx
    have hkj : (ds.map kf)[j]? = some (kf d) := by rw [List.getElem?_map, hdj]; rfl
    have I1 := T.inv.pinned (fp := [kS, a]) (fun b hb => by
      rcases List.mem_cons.mp hb with rfl | hb
      · exact fk _ T.nk
      · rw [List.mem_singleton.mp hb]
        exact fa _ T.na) (fun b hb => by
      rcases List.mem_cons.mp hb with rfl | hb
      · exact ⟨_, T.ok, fun v z => by cases z⟩
      · rw [List.mem_singleton.mp hb]
        exact ⟨_, T.oa, fun v z => by cases z⟩)
    refine wpAny_bind (wpAny_attempt (wpAny_mono (lam_turn I1 (hA I1) T.rep L cp hr (T.same _ _ hf) (T.same _ _ hc) hjs rv (dv.mono T.same) (hsp d (List.mem_of_getElem? hdj))) (fun u' s2 he => ?_) fun _ _ hF => hF.elim))
    obtain ⟨v', F2, H2, x', I2, R2, e2, rv2, d2, rfl⟩ := he
    try dsimp only
    have pk := I2.pin (kS, _) (List.mem_append_right _ (List.mem_append_right _ (mem_pinsAt (by simp) T.ok)))
    have pa := I2.pin (a, _) (List.mem_append_right _ (List.mem_append_right _ (mem_pinsAt (by simp) T.oa)))
    have I3 : Inv X pins σ H2 s2 := I2.unpinned
    have sS := Heap.SameBut.update s2.heap kS (Obj.mapSeq (·.push u'))
    obtain ⟨c2, hc2⟩ : ∃ c2, (s2.heap.update kS (Obj.mapSeq (·.push u'))).get? kS = some (seqObj "list" (kA.push u') c2) := ⟨_, get?_update_seq pk.1 (·.push u')⟩
    have hz2 : kA.size ≤ sizeLine := by rw [T.sz]; omega
    refine wpAny_bind (listUpdate_at pk.1 rfl ?_ hz2 (by rw [Array.size_push]; omega))
    have fk2 := fk H2 pk.2.1
    have I4 := I3.turned (h' := s2.heap.update kS (Obj.mapSeq (·.push u'))) (t' := s2.toks) (it := kS) (fun b o hb q => (sS.2 b hb).trans q) pk.2.1 fk2.2.1 fk2.2.2.2.1 fk2.2.2.2.2.1 fk2.2.2.2.2.2
    have ek : (ds.map kf).take (j + 1) = (ds.map kf).take j ++ [kf d] := by rw [List.take_add_one, hkj]; simp
    have ea : (kA.push u').toList = kA.toList ++ [u'] := by simp
    exact wpAny_pure ⟨rfl, H2, F2, kvs ++ [v'], kA.push u', c2, ⟨I4, R2, T.same.trans e2, hc2, (sS.2 a hka.symm).trans pa.1, pk.2.1, pa.2.1, by rw [Array.size_push, T.sz], by rw [ea]; exact vals_app T.vals (.cons rv2 .nil), by rw [ek]; exact dqa_app (T.dq.mono e2) (.cons d2 .nil)⟩⟩
  case done =>
    rintro s' ⟨H', F', kvs, kA, e0, T⟩
    try dsimp only
    simp only [Nat.zero_add] at T
    refine wpAny_bind (listItems_at T.ok rfl ?_)
    exact h s' H' F' kvs kA e0 T
end
end DL
/-! DL: sorted(xs, key=lambda x: ..), the rule -/
namespace DL
open PySem PySem.Spec PyProof.Rows L2 LamX NdefX PySem.W
section
variable {X : Cx} {pins : List (Addr × Obj)} {σ : L2.St} {G F H : Hp} {P : Option Addr} {s : Shared} {s1 : S} {f : Addr} {Fn : NF} {e : Expr} {x : Str} {fr : List Str} {js : List Nat} {sp : DSpM} {k : Nat}
theorem sorted_lam {l : Addr} {xs : List V} {cds ds : List PyData} {kf : PyData → PyData} {Q : VK} (I : Inv X pins σ H s) (R : Rep X.K G P F H σ s1) (L : LOk X.prog X.w X.K X.mg X.base CX0 k f Fn e [x] fr (spLm X.K sp)) (cp : Caps X Fn.cl fr js) (hr : Room (k + 2) X.A)
    (hf : F f = some (LamO f Fn e)) (hc : F Fn.c = some (CodeO Fn.c Fn.qual)) (hjs : js.map (fun j => s1.e[j]?) = cds.map (fun c => some (Sl.d c)))
    (hl : F l = some (.lst xs)) (dx : DqA X.K F xs ds) (hsp : ∀ d, d ∈ ds → sp [d] cds fun y => y = kf d) (hal : AllAlike (ds.map kf)) (hso : Sortable (ds.map kf)) (hdd : ∀ d, d ∈ ds → (kf d).depth ≤ 60 ∧ (kf d).hasDict = false)
    (q : ∀ (p : Addr) (F' H' : Hp) (vs : List V), Rep X.K G P F' H' σ s1 → Same F F' → Nu G P F' σ s1 p → H' p = some (.lst vs) → DqA X.K F' vs (ds.mergeSort (dataLe false kf)) → Q (.ref p) H') :
    wpAny (model X.prog X.w) X.A (call (.builtin "sorted") [.ref l] [(Str.ofString "key", .ref f)]) (EP X pins σ Q) X.xe s := by
  obtain ⟨its, rv, hpl, hz⟩ := I.list (SqL.of (R.same _ _ hl))
  have hz' : its.length ≤ sizeLine := by rw [← rv.length]; exact hz
  refine sorted_of_sort hpl.isList hz' (ksk_s1 _ _) (fun _ => ksk_l1 _ _) fun E' => ?_
  rw [ksk_t1]
  have ho := copyHeap_at s.heap its
  obtain ⟨e1, ho1⟩ : ∃ e1, ((copyHeap s.heap its).update (s.heap.objs.size + 1) (Obj.mapSeq fun _ => (#[] : Array Value))).get? (s.heap.objs.size + 1) = some (seqObj "list" #[] e1) := ⟨_, get?_update_seq ho fun _ => #[]⟩
  have ha : s.heap.objs.size + 1 < (copyHeap s.heap its).objs.size := Heap.lt_size ho
  have hkS : (((copyHeap s.heap its).update (s.heap.objs.size + 1) (Obj.mapSeq fun _ => (#[] : Array Value))).push (seqObj "tuple" its.toArray 0)).objs.size = (copyHeap s.heap its).objs.size + 1 := by rw [size_push', Heap.size_update]
  unfold ksk_tree
  refine wpAny_bind (listItems_at (s := { s with heap := copyHeap s.heap its }) ho rfl ?_)
  refine wpAny_bind (listUpdate_at (s := { s with heap := copyHeap s.heap its }) ho rfl ?_ (by rw [List.size_toArray]; exact hz') (Nat.zero_le _))
  refine wpAny_bind (seqEpoch_at ho1 rfl ?_)
  refine wpAny_bind (wpAny_newTuple ?_ (by show its.length ≤ _; exact hz'))
  refine wpAny_bind (wpAny_newList ?_ (Nat.zero_le _))
  refine wpAny_holding ?_
  generalize hKS : (((copyHeap s.heap its).update (s.heap.objs.size + 1) (Obj.mapSeq fun _ => (#[] : Array Value))).push (seqObj "tuple" its.toArray 0)).objs.size = kS at hkS
  have old : ∀ b o, s.heap.get? b = some o → (((((copyHeap s.heap its).update (s.heap.objs.size + 1) (Obj.mapSeq fun _ => (#[] : Array Value))).push (seqObj "tuple" its.toArray 0)).push (seqObj "list" #[] 0))).get? b = some o := fun b o z => by
    have hb : b ≠ s.heap.objs.size + 1 := Nat.ne_of_lt (Nat.lt_succ_of_lt (Heap.lt_size z))
    exact sortingHeap_old hb (copyHeap_old z)
  have szk : s.heap.objs.size ≤ kS := by omega
  have hka : kS ≠ s.heap.objs.size + 1 := by omega
  have fk : ∀ H' : Hp, H' kS = none → FpOk X pins H' kS := fun H' n => I.fpOk szk n
  have fa : ∀ H' : Hp, H' (s.heap.objs.size + 1) = none → FpOk X pins H' (s.heap.objs.size + 1) := fun H' n => I.fpOk (Nat.le_succ _) n
  have hr' : Room k X.A.in1.in1 := (hr.in1).in1
  have K0 : Kst X pins σ G P F s1 kS (s.heap.objs.size + 1) e1 (ds.map kf) 0 { s with heap := ((((copyHeap s.heap its).update (s.heap.objs.size + 1) (Obj.mapSeq fun _ => (#[] : Array Value))).push (seqObj "tuple" its.toArray 0)).push (seqObj "list" #[] 0)) } H F [] #[] 0 :=
    ⟨I.kept (t' := s.toks) old, R, Same.refl F, by rw [← hKS]; exact Heap.get?_push_size _ rfl, Heap.get?_push_of_some _ (Heap.get?_push_of_some _ ho1), I.hok.fresh szk, I.hok.fresh (Nat.le_succ _), rfl, .nil, .nil⟩
  refine keys_made (kS := kS) (a := s.heap.objs.size + 1) (ds := ds) (cds := cds) (kf := kf) (A := X.A.in1.in1) hka K0 fk fa (fun I => I.env0.in1.in1) L cp hr' hf hc hjs (each_data dx rv) hz' hsp fun s' H' F' kvs kA e0 T => ?_
  have tk : (ds.map kf).take its.length = ds.map kf := List.take_of_length_le (by rw [List.length_map, ← dx.length, rv.length]; exact Nat.le_refl _)
  have dqk := T.dq
  rw [tk] at dqk
  have hk' : EachIs (fun v d => ∃ as, Reads s'.heap v d as) kA.toList (ds.map kf) := each_reads T.inv T.rep.same dqk T.vals fun d hd => by
    obtain ⟨d0, h0, rfl⟩ := List.mem_map.mp hd
    exact (hdd d0 h0).2
  obtain ⟨G0, g1, g2⟩ := restrict s'.heap fun b => decide (b ≠ kS)
  have hu : ∀ d, d ∈ ds.map kf → X.A.in1.in1.units + d.depth < cLine := fun d hd => by
    obtain ⟨d0, h0, rfl⟩ := List.mem_map.mp hd
    have := (hdd d0 h0).1
    have := hr'.un
    omega
  refine keyH_end (κ := dataKind s'.heap (ds.map kf)) (h₁ := G0) (fun b o hb z => ?_) (g2 kS (by simp)) T.ok T.oa hka (SortsAt.data (s := s') hk' hal hso hu) T.sz hz' fun h3 tk3 c k3 n3 => ⟨rfl, ?_⟩
  · by_cases h2 : b = kS
    · rw [h2, g2 kS (by simp)] at z
      cases z
    · rw [g1 b (by simpa using h2)] at z
      exact z
  · have ko : KeyedOut false (ds.map kf) its (sortVals (dataKind s'.heap (ds.map kf)) false kA.toList its) := ⟨s'.heap, kA.toList, hal, rfl, hk'⟩
    obtain ⟨vs', rv', dv'⟩ := data_each (keyedOut_each kf ko (each_data (dx.mono T.same) rv))
    have lv : vs'.length ≤ sizeLine := by
      rw [dv'.length, List.length_mergeSort, ← dx.length]
      exact hz
    have I6 := inv_filled (a := s.heap.objs.size + 1) (b := kS) (o := .lst vs') (h' := h3) (t' := tk3) T.inv (fa H' T.na) (fk H' T.nk) (fun b o h1 h2 z => k3 b o h1 (by rw [g1 b (by simpa using h2)]; exact z)) ⟨lv, _, c, rv', n3⟩
    exact ⟨.ref (s.heap.objs.size + 1), _, I6, rfl, q _ F' _ vs' (T.rep.fresh (Fresh.newH T.rep.same T.na)) T.same (T.rep.nu T.na) upd_same dv'⟩
end
end DL
/-! DL: sorted(e, key=lambda x: ..), over data -/
namespace DL
open PySem PySem.Spec PyProof.Rows L2 LamX NdefX PySem.W
/-- a lambda's slots at its entry -/
@[simp] def lamE (nl : Nat) (d : PyData) (cds : List PyData) : List Sl := .d d :: (cds.map .d ++ List.replicate nl .un)
section
variable {K : PySem.W.Frag} {F H : Hp}
theorem rep_startL {N : List Str} {v : V} {d : PyData} {cvs : List V} {cds : List PyData} {nl : Nat} (e0 : Same F H ∧ TabsF K F H) (dv : Dq K F v d) (dc : DqA K F cvs cds) (hN : N.length = 1 + cds.length + nl) : Rep K (partH F H none) none F H (startF N [v] (cvs.map some)) ⟨lamE nl d cds, []⟩ := by
  obtain ⟨e, tf⟩ := e0
  have lc := dc.length
  have eσ : startF N [v] (cvs.map some) = some v :: (cvs.map some ++ List.replicate nl none) := by
    unfold startF
    rw [List.length_map]
    have : N.length - [v].length - cvs.length = nl := by simp; omega
    rw [this]
    rfl
  have look : ∀ {i : Nat} {y : Sl}, (lamE nl d cds)[i]? = some y → y = .un ∨ ∃ z w, y = .d z ∧ (startF N [v] (cvs.map some))[i]? = some (some w) ∧ Dq K F w z := fun {i y} h => by
    rw [eσ]
    cases i with
    | zero =>
      have h := (Option.some.inj h).symm
      subst h
      exact .inr ⟨d, v, rfl, rfl, dv⟩
    | succ i =>
      have h : (cds.map Sl.d ++ List.replicate nl Sl.un)[i]? = some y := h
      show y = .un ∨ ∃ z w, y = .d z ∧ (cvs.map some ++ List.replicate nl none)[i]? = some (some w) ∧ Dq K F w z
      by_cases hi : i < cds.length
      · rw [List.getElem?_append_left (by rw [List.length_map]; exact hi), List.getElem?_map] at h
        rw [List.getElem?_append_left (by rw [List.length_map, lc]; exact hi), List.getElem?_map]
        cases hd : cds[i]? with
        | none =>
          rw [hd] at h
          cases h
        | some z =>
          rw [hd] at h
          cases h
          obtain ⟨w, a, b⟩ := dc.get hd
          exact .inr ⟨z, w, rfl, by rw [a]; rfl, b⟩
      · rw [List.getElem?_append_right (by rw [List.length_map]; omega), List.getElem?_replicate] at h
        split at h
        · exact .inl (Option.some.inj h).symm
        · cases h
  refine ⟨e, part_same, fun b o h => (partH_some h).1, fun i y hy => ?_, fun i j xs ys p hi hj _ _ => ?_, fun a ha => (by cases ha), ?_, fun i j y z r hi hj hr _ _ => ?_, tabs_part tf fun _ z => by cases z⟩
  · rcases look hy with rfl | ⟨z, w, rfl, a, b⟩
    · exact True.intro
    · exact ⟨w, a, b⟩
  · rcases look hi with h | ⟨z, w, h, _⟩
    · cases h
    · cases h
  · rw [eσ]
    simp [lc]
  · rcases look hi with rfl | ⟨z, w, rfl, _⟩
    · cases hr
    · cases hr
end
section
variable {X : Cx} {k : Nat}
/-- what a lambda promises, from its body -/
theorem lam_ok {params : Arguments} {body : Expr} {scope : Scope} {x : Str} {N fr : List Str} {nl : Nat} {wl : DE} {f c' : Addr} (S : NScope N [x] fr scope) (hN : N.length = 1 + fr.length + nl)
    (hb : ∀ (q : Str) (cl : List (Str × Addr)) (pm cv ctv : Value) (us : List Value), us.length = 1 → bindArgs (PySem.W.kla_fn "<lambda>" q params body scope cl pm cv ctv) ⟨us, []⟩ = pure ([x].zip us))
    (hbody : ∀ (A : Around) (outer : List Env) (s : Shared) (H : Hp) (E : XK), Room k (A.deeper (envF (lamF X params scope c') f s.heap.objs.size)) → XE (ncx CX0 X.prog X.w X.K X.mg X.base N (lamF X params scope c') f A outer s H E) body wl) :
    LOk X.prog X.w X.K X.mg X.base CX0 (k + 1) f (lamF X params scope c') body [x] fr (spLm X.K fun ds cds Φ => ∃ d, ds = [d] ∧ wl ⟨lamE nl d cds, []⟩ fun y _ => Φ y) := by
  refine lok_of (N := N) S (fun pm ctv us h => hb _ _ pm _ ctv us h) (fun ws vs H Q E h => ?_) fun A outer s H vs ws Q E hr hf hc hw h => ?_
  · obtain ⟨F, ds, cds, Φ, cvs, _, d, _, _, ⟨d0, e, _⟩, _⟩ := h
    rw [d.length, e]
    rfl
  · obtain ⟨F, ds, cds, Φ, cvs, e0, d, ew, dc, ⟨d0, e, q⟩, kk⟩ := h
    subst e
    subst ew
    refine ⟨_, hbody A outer s H E hr, ?_⟩
    match vs, d with
    | [v], .cons dv .nil =>
      have lw : cds.length = fr.length := by rw [← hw, List.length_map, dc.length]
      exact ⟨_, none, F, _, _, rep_startL e0 dv dc (by rw [hN, lw]), q, fun v' F' H' s' x' R ee dx qx => kk v' F' H' x' (fresh_of e0 R ee) dx qx⟩
/-- the running def's code object and its table, of lambdas -/
structure CodeL (K : PySem.W.Frag) (cdv : Value) (P : Addr) : Prop where
  ex : ∃ c, cdv = .ref c ∧ codeTab K c = some P
  tab : LamK K P
theorem codeL_of {K : PySem.W.Frag} {x : Str} {f c P : Addr} {o : Obj} {fd : FuncData} (hx : x ∈ lamNames) (nt : ¬ TabK K P) (a : PySem.W.nsIn K mainGlobals x = some (some (.ref f))) (l : K.lookup f = some o) (hd : o.data = .func fd) (hc : fd.code = .ref c) (e : codeTab K c = some P) : CodeL K (.ref c) P := by
  obtain ⟨oc, vs, file, tf, flags, tg, inF, text, tt, dd, sl, rfl, h1, h2, _, _, _, _, _, h8⟩ := codeTab_of e
  exact ⟨⟨c, rfl, e⟩, x, f, c, o, fd, _, dd, vs, sl, hx, a, l, hd, hc, h1, h2, h8, nt⟩
theorem tabB_of {pins : List (Addr × Obj)} {σ : L2.St} {H : Hp} {s : Shared} {c T : Addr} {ps : Array Value} (I : Inv X pins σ H s) (hbm : BmOk X.mg X.base) (ht : codeTab X.K c = some T) (hT : H T = some (.tbl ps)) : TabB X.base X.mg c T := by
  have hP : s.heap.get? T = some { cls := .none, data := .fields ps } := I.hok T _ hT
  have gT : mainGlobals ≠ T := fun z => by
    obtain ⟨o, es, ep, e, hd, _⟩ := I.ok.mod.glob.keeps I.bk
    rw [z, hP] at e
    cases e
    cases hd
  obtain ⟨bm, ob, b1, b2, b3, b4, b5, b6, b7⟩ := hbm
  have bT : bm ≠ T := fun z => by
    have := (I.bs bm ob b4).2
    rw [z, hT] at this
    cases this
  exact ⟨codeHd_of I.ok.mod.kin ht, ⟨bm, ob, b1, b2, b3, bT, b4, b5, b6, b7⟩, gT⟩
/-- the lambda as a value -/
def tLamV (X : Cx) (T : Addr) (params : Arguments) (body : Expr) (scope : Scope) : TE := fun σ H Q => LamK X.K T ∧ ∃ G P F s1, Rep X.K G P F H σ s1 ∧ ∀ f c' F1 H1, Rep X.K G P F1 H1 σ s1 → Same F F1 → F1 f = some (LamO f (lamF X params scope c') body) → F1 c' = some (CodeO c' (X.env.qual ++ "<lambda>")) → Q (.ref f) H1
theorem pe_lamV {T : Addr} {params : Arguments} {body : Expr} {scope : Scope} {fr : List Str} {lpos : Pos} (hbm : BmOk X.mg X.base) (hcd : CodeL X.K X.env.code T) (hn : lamN lpos.line lpos.col = X.env.qual ++ "<lambda>") (hdef : defaultsOf params X.env = ([], [])) (hnd : ndefB X.env.scope scope fr = true) :
    PE X (.Lambda params body scope lpos) (tLamV X T params body scope) := by
  refine ⟨fun pins s σ H Q I h => ?_⟩
  obtain ⟨tkT, G, P, F, s1, R, h⟩ := h
  obtain ⟨ps, hP⟩ := R.tab.1.tblAt R.keep tkT
  have hfree := ndef_free hnd
  obtain ⟨⟨c, hcode, ht⟩, _⟩ := hcd
  refine lam_mk (F0 := F) I (tabB_of I hbm ht hP) hcode hP (R.tab.2.1 T ps hP) R.same (R.tabF.lam T tkT).1 hn hdef (fun y hy e => (hfree y hy e).elim (fun z => I.ok.has _ (.inl z)) fun z => I.ok.has _ (.inr z)) fun f c' H1 F1 s' I1 fr1 e1 e2 => ?_
  exact ⟨.ref f, H1, I1, rfl, h f c' F1 H1 (R.fresh fr1) fr1.ff e1 e2⟩
/-- js: where the captured names stand; nl: how many names of its own the lambda has -/
def SrtK (nl : Nat) (js : List Nat) (wl : DE) (Φ : List PyData → S → Prop) (x : PyData) (s1 : S) : Prop := ∃ (ds cds : List PyData) (kf : PyData → PyData), x = .list ds ∧ js.map (fun j => s1.e[j]?) = cds.map (fun c => some (Sl.d c)) ∧
  (∀ d, d ∈ ds → wl ⟨lamE nl d cds, []⟩ fun y _ => y = kf d) ∧ AllAlike (ds.map kf) ∧ Sortable (ds.map kf) ∧ (∀ d, d ∈ ds → (kf d).depth ≤ 60 ∧ (kf d).hasDict = false) ∧ Φ (ds.mergeSort (dataLe false kf)) s1
@[simp] def wSortK (nl : Nat) (js : List Nat) (wl wa : DE) : DA := fun s Φ => wa s fun x s1 => SrtK nl js wl Φ x s1
theorem xl_sortK {T : Addr} {params : Arguments} {body e : Expr} {scope : Scope} {x : Str} {N fr : List Str} {nl : Nat} {js : List Nat} {wl wa : DE} {p lpos kpos pos : Pos} (hr : Room (k + 3) X.A) (hg : Gl X "sorted") (hm : X.mg "sorted" = none) (ha : XE X e wa)
    (hbm : BmOk X.mg X.base) (hcd : CodeL X.K X.env.code T) (hn : lamN lpos.line lpos.col = X.env.qual ++ "<lambda>") (hdef : defaultsOf params X.env = ([], []))
    (S : NScope N [x] fr scope) (hN : N.length = 1 + fr.length + nl) (hnd : ndefB X.env.scope scope fr = true) (hjs : js.map (fun j => X.N[j]?) = fr.map some)
    (hb : ∀ (q : Str) (cl : List (Str × Addr)) (pm cv ctv : Value) (us : List Value), us.length = 1 → bindArgs (PySem.W.kla_fn "<lambda>" q params body scope cl pm cv ctv) ⟨us, []⟩ = pure ([x].zip us))
    (hbody : ∀ (f c' : Addr) (A : Around) (outer : List Env) (s : Shared) (H : Hp) (E : XK), Room k (A.deeper (envF (lamF X params scope c') f s.heap.objs.size)) → XE (ncx CX0 X.prog X.w X.K X.mg X.base N (lamF X params scope c') f A outer s H E) body wl)
    (he : starEach [e] X.env = (false, eval e X.env) :: starEach [] X.env := by rfl) (hb2 : backTo pos (starEach [e] X.env) = (false, eval e X.env) :: backTo pos (starEach [] X.env) := by rfl) (hpl : (backTo pos (starEach [e] X.env)).any (·.1) = false := by rfl) :
    XL X (.Call (.Name "sorted" p) [e] [⟨some "key", .Lambda params body scope lpos, kpos⟩] pos) (wSortK nl js wl wa) := by
  refine ⟨fun pins s σ H Q I h => ?_⟩
  obtain ⟨G, P, F, s0, Φ, R, h, kk⟩ := h
  refine wpAny_Call_Name_kw (ld_blt I hg hm bb_sorted ?_ (by decide) (by decide))
  have hA : tCons (tE X.K wa) tNil σ H (fun us H1 => ∃ v0, us = [v0] ∧ ∃ F1 s1 x0, Rep X.K G P F1 H1 σ s1 ∧ Same F F1 ∧ Dq X.K F1 v0 x0 ∧ SrtK nl js wl Φ x0 s1) :=
    ⟨G, P, F, s0, fun x0 s1 => SrtK nl js wl Φ x0 s1, R, h, fun v F' H' s' x0 R' e' d' q' => ⟨v, rfl, F', s', x0, R', e', d', q'⟩⟩
  refine PyProof.Rows.callWith_kw (thn ((pa_cons ha pa_nil he).run pos pins s σ H _ I hA) fun us s2 ⟨vs, H1, I1, r1, q1⟩ => ?_) hb2 hpl rfl rfl
  obtain ⟨v0, rfl, F1, s1, x0, R1, e1, d1, ds, cds, kf, rfl, hc, hk, hal, hso, hdd, q⟩ := q1
  cases d1 with
  | @lst l xs _ hl dx =>
  obtain rfl : us = [.ref l] := by
    cases r1 with
    | cons a b =>
      cases b
      cases a
      rfl
  have hL : tCons (tLamV X T params body scope) tNil σ H1 (fun zs H2 => ∃ f c' F2, zs = [.ref f] ∧ Rep X.K G P F2 H2 σ s1 ∧ Same F1 F2 ∧ F2 f = some (LamO f (lamF X params scope c') body) ∧ F2 c' = some (CodeO c' (X.env.qual ++ "<lambda>"))) :=
    ⟨hcd.tab, G, P, F1, s1, R1, fun f c' F2 H2 R2 e2 a b => ⟨f, c', F2, rfl, R2, e2, a, b⟩⟩
  refine thn ((pk_cons (pe_lamV hbm hcd hn hdef hnd) pk_nil).run pos pins s2 σ H1 _ I1 hL) fun ws s3 ⟨zs, H2, I2, r2, q2⟩ => ?_
  obtain ⟨f, c', F2, rfl, R2, e2, hf, hcd⟩ := q2
  obtain rfl : ws = [.ref f] := by
    cases r2 with
    | cons a b =>
      cases b
      cases a
      rfl
  have cp : Caps X (lamF X params scope c').cl fr js := Caps.made I2.ok (ndef_free hnd) (ndef_fr hnd) hjs
  show wpAny _ _ (call (.builtin "sorted") [.ref l] [(Str.ofString "key", .ref f)]) _ _ _
  refine sorted_lam (k := k + 1) I2 R2 (lam_ok (nl := nl) S hN hb fun A outer s H E hr => hbody f c' A outer s H E hr) cp hr hf hcd hc (e2 _ _ hl) (dx.mono e2) (fun d hd => ⟨d, rfl, hk d hd⟩) hal hso hdd fun p F' H' vs R' e' n hp dv => ?_
  exact kk p vs F' H' s1 _ R' ((e1.trans e2).trans e') n hp dv q
end
end DL
/-! DL: dict comprehensions with flat values, as data; list(d) -/
namespace DL
open PySem PySem.Spec PyProof.Rows L2
@[simp] def keyD : PyData → Bool
  | .int _ => true
  | .str _ => true
  | _ => false
@[simp] def flatX : PyData → Bool
  | .none => true
  | .bool _ => true
  | .int _ => true
  | .str _ => true
  | _ => false
def keyEq : PyData → PyData → Bool
  | .int i, .int j => decide (i = j)
  | .str x, .str y => decide (x = y)
  | _, _ => false
def putP (l : List (PyData × PyData)) (k x : PyData) : List (PyData × PyData) :=
  if (l.any fun p => keyEq p.1 k) = true then l.map (fun p => if (keyEq p.1 k) = true then (p.1, x) else p) else l ++ [(k, x)]
abbrev dictD (l : List (PyData × PyData)) : PyData := .dict [(.bool true, .list (l.map (·.1))), (.none, .list (l.map (·.2)))]
theorem keyF_of {K : PySem.W.Frag} {F : Hp} {v : V} {d : PyData} (h : Dq K F v d) (hk : keyD d = true) : ∃ k, v = L2.kV k ∧ KeyF k d := by
  cases d <;> first | cases hk | skip
  · cases h
    exact ⟨.inl _, rfl, .int _⟩
  · cases h
    exact ⟨.inr _, rfl, .str _⟩
theorem flF_of {K : PySem.W.Frag} {F : Hp} {v : V} {d : PyData} (h : Dq K F v d) (hk : flatX d = true) : FlF v d := by
  cases d <;> first | cases hk | skip
  all_goals cases h
  · exact .non
  · exact .bl _
  · exact .int _
  · exact .str _
theorem keyF_eq {k1 k2 : Key} {d1 d2 : PyData} (h1 : KeyF k1 d1) (h2 : KeyF k2 d2) : decide (k1 = k2) = keyEq d1 d2 := by
  cases h1 <;> cases h2
  · rename_i i j
    by_cases e : i = j
    · subst e
      simp [keyEq]
    · rw [decide_eq_false (fun z => e (Sum.inl.inj z))]
      exact (decide_eq_false e).symm
  · rw [decide_eq_false (fun z => by cases z)]
    rfl
  · rw [decide_eq_false (fun z => by cases z)]
    rfl
  · rename_i i j
    by_cases e : i = j
    · subst e
      simp [keyEq]
    · rw [decide_eq_false (fun z => e (Sum.inr.inj z))]
      exact (decide_eq_false e).symm
/-- a dict's pairs and the data's -/
abbrev KvP (kvs : List (Key × V)) (l : List (PyData × PyData)) : Prop := KvF kvs (l.map (·.1)) (l.map (·.2))
theorem kvP_any {k : Key} {kd : PyData} (hk : KeyF k kd) : ∀ {kvs : List (Key × V)} {l : List (PyData × PyData)}, KvP kvs l → (kvs.any fun kv => decide (kv.1 = k)) = l.any fun p => keyEq p.1 kd
  | [], [], _ => rfl
  | (k1, v1) :: kvs, (d1, x1) :: l, h => by
    cases h with
    | cons a b c =>
      rw [List.any_cons, List.any_cons, kvP_any hk c]
      exact congrArg (· || _) (keyF_eq a hk)
  | [], _ :: _, h => by cases h
  | _ :: _, [], h => by cases h
theorem kvP_map {k : Key} {v : V} {kd x : PyData} (hk : KeyF k kd) (hv : FlF v x) : ∀ {kvs : List (Key × V)} {l : List (PyData × PyData)}, KvP kvs l → KvP (kvs.map fun kv => if kv.1 = k then (kv.1, v) else kv) (l.map fun p => if (keyEq p.1 kd) = true then (p.1, x) else p)
  | [], [], _ => .nil
  | (k1, v1) :: kvs, (d1, x1) :: l, h => by
    cases h with
    | cons a b c =>
      have e := keyF_eq a hk
      rw [List.map_cons, List.map_cons]
      by_cases q : k1 = k
      · rw [decide_eq_true q] at e
        rw [if_pos q, if_pos e.symm]
        exact .cons a hv (kvP_map hk hv c)
      · rw [decide_eq_false q] at e
        rw [if_neg q, if_neg (by rw [← e]; exact Bool.false_ne_true)]
        exact .cons a b (kvP_map hk hv c)
  | [], _ :: _, h => by cases h
  | _ :: _, [], h => by cases h
theorem kvP_end {k : Key} {v : V} {kd x : PyData} (hk : KeyF k kd) (hv : FlF v x) : ∀ {kvs : List (Key × V)} {l : List (PyData × PyData)}, KvP kvs l → KvP (kvs ++ [(k, v)]) (l ++ [(kd, x)])
  | [], [], _ => .cons hk hv .nil
  | (k1, v1) :: kvs, (d1, x1) :: l, h => by
    cases h with
    | cons a b c => exact .cons a b (kvP_end hk hv c)
  | [], _ :: _, h => by cases h
  | _ :: _, [], h => by cases h
theorem kvP_put {k : Key} {v : V} {kd x : PyData} {kvs : List (Key × V)} {l : List (PyData × PyData)} (hk : KeyF k kd) (hv : FlF v x) (h : KvP kvs l) : KvP (putK kvs k v) (putP l kd x) := by
  unfold putK putP
  rw [kvP_any hk h]
  by_cases q : (l.any fun p => keyEq p.1 kd) = true
  · rw [if_pos q, if_pos q]
    exact kvP_map hk hv h
  · rw [if_neg q, if_neg q]
    exact kvP_end hk hv h
theorem KvF.len : ∀ {kvs : List (Key × V)} {ks xs : List PyData}, KvF kvs ks xs → kvs.length = ks.length
  | _, _, _, .nil => rfl
  | _, _, _, .cons _ _ c => congrArg Nat.succ c.len
theorem kvF_keys {K : PySem.W.Frag} {F : Hp} : ∀ {kvs : List (Key × V)} {ks xs : List PyData}, KvF kvs ks xs → DqA K F (kvs.map fun kv => L2.kV kv.1) ks
  | _, _, _, .nil => .nil
  | _, _, _, .cons a _ c => .cons (by cases a <;> constructor) (kvF_keys c)
def dcW (vs : List Nat) (e0 : List Sl) (wg : DG) (wt : DT) (wk we : DE) (Φ : List (PyData × PyData) → List Int → Prop) : List PyData → List (PyData × PyData) → List Int → Prop
  | [], acc, q => Φ acc q
  | x :: xs, acc, q => wg x ⟨wipeE e0 vs, q⟩ fun s1 => wipeE s1.e vs = wipeE e0 vs ∧ wt s1 fun b s2 => s2.e = s1.e ∧
    (if b = true then wk s2 fun k s3 => s3.e = s1.e ∧ keyD k = true ∧ we s3 fun y s4 => s4.e = s1.e ∧ flatX y = true ∧ acc.length < sizeLine ∧ dcW vs e0 wg wt wk we Φ xs (putP acc k y) s4.q else dcW vs e0 wg wt wk we Φ xs acc s2.q)
@[simp] def wDc (vs : List Nat) (wi : DI) (wg : DG) (wt : DT) (wk we : DE) : DE := fun s Φ => wi s fun xs s1 => noOwn vs s1.e = true ∧ dcW vs s1.e wg wt wk we (fun l q => Φ (dictD l) ⟨s1.e, q⟩) xs [] s1.q
/-- a new object is frozen -/
theorem Rep.takeO {K : PySem.W.Frag} {G F H : Hp} {P : Option Addr} {σ : L2.St} {s : S} {p : Addr} {o : HO} (R : Rep K G P F H σ s) (n : Nu G P F σ s p) (h : H p = some o) (t : isTb o = false := by rfl) : Rep K G P (upd F p o) H σ s := by
  have sF : Same F (upd F p o) := same_new n.f
  refine ⟨fun b u q => ?_, R.keep, fun b u g => ?_, fun j x hx => ?_, R.sep, fun a ha => ?_, R.len, R.tbs, ⟨R.tab.1, R.tab.2.updF n.f t⟩⟩
  · by_cases hb : b = p
    · rw [hb, upd_same] at q
      cases q
      rw [hb]
      exact h
    · rw [upd_ne hb] at q
      exact R.same b u q
  · rw [upd_ne (fun z => by rw [z, n.g] at g; cases g)]
    exact R.apart b u g
  · have q := R.sl j x hx
    cases x with
    | un => exact True.intro
    | d x =>
      obtain ⟨v, a, b⟩ := q
      exact ⟨v, a, b.mono sF⟩
    | o ys =>
      obtain ⟨p', vs', g1, g2, g3, g4, g5, g6⟩ := q
      have np : p' ≠ p := fun z => n.sl j ys hx (by rw [← z]; exact g1)
      exact ⟨p', vs', g1, by rw [upd_ne np]; exact g2, g3, g4, g5, g6.mono sF⟩
    | pl => exact q
    | sc ns =>
      obtain ⟨a, g1, g2⟩ := q
      exact ⟨a, g1, sF.seq g2⟩
    | tb p' qs xss => exact q.tbUp rfl sF fun r o hr g1 g2 g3 g4 => ⟨by rw [upd_ne (fun z => n.tb j _ hx (by rw [← z]; exact hr))]; exact g1, g2, g3, g4⟩
  · obtain ⟨g1, g2, g3⟩ := R.pool a ha
    exact ⟨by rw [upd_ne (fun z => n.np (by rw [← z]; exact ha))]; exact g1, g2, g3⟩
theorem dc_of {K : PySem.W.Frag} {vs is : List Nat} {wi : DI} {wg : DG} {wt : DT} {wk we : DE} (hsub : ∀ i ∈ is, i ∈ vs) (σ : L2.St) (H : Hp) (Q : VK) (h : tE K (wDc vs wi wg wt wk we) σ H Q) : tDc (tI K wi) (tG K is wg) (tT K wt) (tE K wk) (tE K we) vs σ H Q := by
  obtain ⟨G, P, F, s, Φ, R, h, k⟩ := h
  refine ⟨G, P, F, s, _, R, h, fun J F1 H1 s1 xs R1 e1 Y q D hD => ?_⟩
  obtain ⟨hno, q⟩ := q
  obtain ⟨R1', n1⟩ := nu_new (o := .dK []) R1 hD
  refine ⟨fun i m H2 => m = xs.length - i ∧ i ≤ xs.length ∧ ∃ F2 kvs acc q2, Same F1 F2 ∧ H2 D = some (.dK kvs) ∧ KvP kvs acc ∧ Rep K G P F2 H2 σ ⟨s1.e, q2⟩ ∧ Nu G P F2 σ ⟨s1.e, q2⟩ D ∧
    dcW vs s1.e wg wt wk we (fun l q => Φ (dictD l) ⟨s1.e, q⟩) (xs.drop i) acc q2, ⟨_, rfl, Nat.zero_le _, F1, [], [], s1.q, Same.refl F1, upd_same, .nil, R1', n1, by simpa using q⟩, ?_⟩
  rintro i m H2 ⟨rfl, hi, F2, kvs, acc, q2, e2, hD2, dacc, R2, n2, w2⟩
  by_cases hl : i < xs.length
  · obtain ⟨go, yl⟩ := (Y F2 H2 e2 R2.same i).1 xs[i] (List.getElem?_eq_getElem hl)
    rw [List.drop_eq_getElem_cons hl] at w2
    refine .inr ⟨go, fun H3 => ∃ F2 kvs acc q2, Same F1 F2 ∧ H3 D = some (.dK kvs) ∧ KvP kvs acc ∧ Rep K G P F2 H3 σ ⟨s1.e, q2⟩ ∧ Nu G P F2 σ ⟨s1.e, q2⟩ D ∧
      dcW vs s1.e wg wt wk we (fun l q => Φ (dictD l) ⟨s1.e, q⟩) (xs.drop (i + 1)) acc q2, fun H3 z => ⟨xs.length - (i + 1), by omega, rfl, hl, z⟩, fun v H3 hy => ?_⟩
    obtain ⟨F3, f, dx⟩ := yl v H3 hy
    have RB : Rep K (upd G D (.dK kvs)) P F3 H3 (wipe σ vs) ⟨wipeE s1.e vs, q2⟩ := (R2.block (vs := vs) n2 hD2).fresh f
    refine ⟨_, P, F3, _, xs[i], _, RB, dx, w2, fun σ4 s4 R4 ag l4 q4 => ?_⟩
    obtain ⟨we4, q4⟩ := q4
    have ag' : ∀ i, i ∉ vs → σ4[i]? = σ[i]? := fun j hj => by
      rw [ag j (fun z => hj (hsub j z)), wipe_off hj]
    refine ⟨wipe_same (by rw [l4, wipe_length]) ag', ?_⟩
    refine ⟨_, P, F3, s4, _, R4, q4, fun b F5 H5 s5 R5 e5 q5 => ?_⟩
    obtain ⟨es5, q5⟩ := q5
    have e25 : Same F2 F5 := f.ff.trans e5
    cases b with
    | true =>
      rw [if_pos rfl] at q5 ⊢
      refine ⟨_, P, F5, s5, _, R5, q5, fun y F6 H6 s6 dy R6 e6 d6 q6 => ?_⟩
      obtain ⟨es6, hk6, q6⟩ := q6
      refine ⟨_, P, F6, s6, _, R6, q6, fun z F7 H7 s7 dz R7 e7 d7 q7 => ?_⟩
      obtain ⟨es7, hx7, hz, q7⟩ := q7
      obtain ⟨kk, ek, hkk⟩ := keyF_of d6 hk6
      have e27 : Same F2 F7 := (e25.trans e6).trans e7
      obtain ⟨R8, n8, hD8⟩ := R2.unblockO (vs := vs) (o' := .dK (putK kvs kk z)) n2 hno e27 R7 (by rw [es7]; exact we4) ag'
      exact ⟨kvs, kk, ek, hD8, by rw [dacc.len, List.length_map]; exact hz, F7, putK kvs kk z, putP acc dy dz, s7.q, e2.trans e27, upd_same, kvP_put hkk (flF_of d7 hx7) dacc, R8, n8, q7⟩
    | false =>
      rw [if_neg Bool.false_ne_true] at q5 ⊢
      obtain ⟨R7, n7, hD7⟩ := R2.unblockO (vs := vs) (o' := .dK kvs) n2 hno e25 R5 (by rw [es5]; exact we4) ag'
      have eu : upd H5 D (.dK kvs) = H5 := by
        funext b
        by_cases hb : b = D
        · rw [hb, upd_same, hD7]
        · rw [upd_ne hb]
      rw [eu] at R7
      exact ⟨F5, kvs, acc, s5.q, e2.trans e25, hD7, dacc, R7, n7, q5⟩
  · refine .inl ⟨(Y F2 H2 e2 R2.same i).2 (by omega), ?_⟩
    rw [List.drop_eq_nil_of_le (by omega)] at w2
    exact k (.ref D) _ H2 ⟨s1.e, q2⟩ (dictD acc) (R2.takeO n2 hD2) ((e1.trans e2).trans (same_new n2.f)) (.dk upd_same dacc) w2
section
variable {X : Cx} {pos : Pos}
theorem xe_dc {kx vx tg iter : Expr} {ifs : List Expr} {scope : Scope} {own : List (Str × Nat)} {is : List Nat} {wi : DI} {wg : DG} {wt : DT} {wk we : DE} (hc : X.calm = true) (hN : X.N.Nodup) (hi : XI X tg iter wi) (ok : BlkOk X.N X.env.scope scope own) (hsub : ∀ i ∈ is, i ∈ own.map (·.2))
    (hg : ∀ (s : Shared) (H : Hp) (C : Addr) (cl : List (Str × Addr)) (fp : List Addr), XG (X.blk s H scope (compEnvC scope cl C X.env) fp) tg is wg) (ht : ∀ (s : Shared) (H : Hp) (C : Addr) (cl : List (Str × Addr)) (fp : List Addr), XTs (X.blk s H scope (compEnvC scope cl C X.env) fp) ifs wt)
    (hk : ∀ (s : Shared) (H : Hp) (C : Addr) (cl : List (Str × Addr)) (fp : List Addr), XE (X.blk s H scope (compEnvC scope cl C X.env) fp) kx wk)
    (he : ∀ (s : Shared) (H : Hp) (C : Addr) (cl : List (Str × Addr)) (fp : List Addr), XE (X.blk s H scope (compEnvC scope cl C X.env) fp) vx we) (hs : ∀ x, foldedSetIterable iter X.env x = pure x := by intro _; rfl) :
    XE X (.DictComp kx vx [⟨tg, iter, ifs, 0⟩] scope pos) (wDc (own.map (·.2)) wi wg wt wk we) := pe_imp (pe_dc hc hN hi ok hg ht hk he hs) (dc_of hsub)
theorem ps_setDc {i : Nat} {y : Str} {py : Pos} {kx vx tg iter : Expr} {ifs : List Expr} {scope : Scope} {own : List (Str × Nat)} {pos spos : Pos} {wi : TI} {g : TG} {tt : TT} {tk te : TE} (hc : X.calm = true) (hN : X.N.Nodup) (hy : X.N[i]? = some y) (hyl : X.env.scope.names.lookup y = some .local)
    (hsw : swapsWith (.DictComp kx vx [⟨tg, iter, ifs, 0⟩] scope pos) (some (.Name y py)) spos.line X.env = pure true) (hi : PI X tg iter wi) (ok : BlkOk X.N X.env.scope scope own)
    (hg : ∀ (s : Shared) (H : Hp) (C : Addr) (cl : List (Str × Addr)) (fp : List Addr), PG (X.blk s H scope (compEnvC scope cl C X.env) fp) tg g) (ht : ∀ (s : Shared) (H : Hp) (C : Addr) (cl : List (Str × Addr)) (fp : List Addr), PTs (X.blk s H scope (compEnvC scope cl C X.env) fp) ifs tt)
    (hk : ∀ (s : Shared) (H : Hp) (C : Addr) (cl : List (Str × Addr)) (fp : List Addr), PE (X.blk s H scope (compEnvC scope cl C X.env) fp) kx tk)
    (he : ∀ (s : Shared) (H : Hp) (C : Addr) (cl : List (Str × Addr)) (fp : List Addr), PE (X.blk s H scope (compEnvC scope cl C X.env) fp) vx te) (hs : ∀ x, foldedSetIterable iter X.env x = pure x := by intro _; rfl) :
    PS X (.Assign [.Name y py] (.DictComp kx vx [⟨tg, iter, ifs, 0⟩] scope pos) spos) (tAsg (tDc wi g tt tk te (own.map (·.2))) (gName i)) := by
  refine ⟨fun pins s σ H D I h => ?_⟩
  rw [exec_Assign_Name_used _ _ _ _ hsw]
  refine wpAny_bind (wpAny_standAt (wpAny_bind ?_))
  show wpAny _ X.A (do let _ ← comprehension (.DictComp kx vx [⟨tg, iter, ifs, 0⟩] scope pos) scope X.env (firstIterPos [⟨tg, iter, ifs, 0⟩] pos) newDict false (eval iter X.env) (some (assign (.Name y py) X.env))) _ _ s
  have h : tDc wi g tt tk te (own.map (·.2)) σ H (fun x H1 => gName i x σ H1 D.nx) := h
  refine wpAny_bind (thn (dc_core (Qf := fun _ s' => SP X pins D .next s') hc hN I hi ok hg ht hk he hs h fun L C s' m H' I' q hn f => ?_) fun _ s' hq => wpAny_pure (wpAny_pure hq))
  show wpAny _ _ (assign (.Name y py) X.env (.ref L)) _ _ _
  refine wpAny_assign_Name (store_ok2 (v := V.ref L) I' hN hy (.inl hyl) rfl (fun s2 I2 ⟨a, sb, ha⟩ => ?_) (.inr hyl))
  obtain ⟨f0, f1, f2, f3, f4, f5⟩ := f
  have haC : C ≠ a := by
    rcases ha with z | z
    · rw [z]; exact f1
    · exact fun e => f4 y a z e.symm
  refine ⟨m, hn.sameBut sb haC, fun h3 sb3 => ?_⟩
  exact ⟨_, H', I2.turned (t' := s2.toks) (fun b o hb e => (sb3.2 b hb).trans e) f0 f1 f3 f4 f5, q⟩
theorem sw_trueD {kx vx : Expr} {gs : List Comprehension} {scope : Scope} {pos py : Pos} {y : Str} {l : Nat} {env : Env} (hk : env.scope.kind = .function) (hy : env.scope.names.lookup y = some .local) (hl : (py.line == pos.line) = true)
    (ha : (scope.names.any fun (n, k) => n == y && (k == .local || k == .cell)) = false) : swapsWith (.DictComp kx vx gs scope pos) (some (.Name y py)) l env = pure true := by
  have ky : env.kindOf y = some .local := hy
  have hb : env.blockKind = .function := by unfold Env.blockKind; rw [hk]; rfl
  unfold swapsWith
  simp only [hb, ky, ha, Expr.pos, hl]
  rfl
/-- y = {..} on one line, y a plain name -/
theorem xs_setDc {i : Nat} {y : Str} {py : Pos} {kx vx tg iter : Expr} {ifs : List Expr} {scope : Scope} {own : List (Str × Nat)} {spos : Pos} {is : List Nat} {wi : DI} {wg : DG} {wt : DT} {wk we : DE} (hc : X.calm = true) (hN : X.N.Nodup) (hy : X.N[i]? = some y) (hyl : X.env.scope.names.lookup y = some .local)
    (hsw : swapsWith (.DictComp kx vx [⟨tg, iter, ifs, 0⟩] scope pos) (some (.Name y py)) spos.line X.env = pure true) (hi : XI X tg iter wi) (ok : BlkOk X.N X.env.scope scope own) (hsub : ∀ i ∈ is, i ∈ own.map (·.2))
    (hg : ∀ (s : Shared) (H : Hp) (C : Addr) (cl : List (Str × Addr)) (fp : List Addr), XG (X.blk s H scope (compEnvC scope cl C X.env) fp) tg is wg) (ht : ∀ (s : Shared) (H : Hp) (C : Addr) (cl : List (Str × Addr)) (fp : List Addr), XTs (X.blk s H scope (compEnvC scope cl C X.env) fp) ifs wt)
    (hk : ∀ (s : Shared) (H : Hp) (C : Addr) (cl : List (Str × Addr)) (fp : List Addr), XE (X.blk s H scope (compEnvC scope cl C X.env) fp) kx wk)
    (he : ∀ (s : Shared) (H : Hp) (C : Addr) (cl : List (Str × Addr)) (fp : List Addr), XE (X.blk s H scope (compEnvC scope cl C X.env) fp) vx we) (hs : ∀ x, foldedSetIterable iter X.env x = pure x := by intro _; rfl) :
    XS X (.Assign [.Name y py] (.DictComp kx vx [⟨tg, iter, ifs, 0⟩] scope pos) spos) (wSet i (wDc (own.map (·.2)) wi wg wt wk we)) := ps_imp (ps_setDc hc hN hy hyl hsw hi ok hg ht hk he hs) fun D σ H h => by
  obtain ⟨G, P, F, s, Φ, R, h, b⟩ := h
  exact dc_of hsub σ H _ ⟨G, P, F, s, _, R, h, fun v F' H' s' x R' e d q => b.nx _ F' H' _ (R'.setD d) e q⟩
/-- list(d), d such a dict: its keys -/
@[simp] def dListK : WN := fun xs φ => ∃ l, xs = [dictD l] ∧ φ (.list (l.map (·.1)))
theorem opn_listK {K : PySem.W.Frag} : OpN K rListD dListK := ⟨fun {F H vs ds} Q Φ e d h k => by
  obtain ⟨l, rfl, h⟩ := h
  cases d with
  | cons d1 d2 =>
    cases d2
    cases d1 with
    | @dk a kvs _ _ g1 g2 =>
      refine ⟨a, kvs, rfl, e _ _ g1, fun q hq => ?_⟩
      have f := Fresh.new (o := .lst (kvs.map fun kv => L2.kV kv.1)) e hq
      exact k _ _ _ _ f (.lst upd_same (kvF_keys g2)) h⟩
theorem xe_listK {e : Expr} {p : Pos} {wa : DA} (hc : X.calm = true) (hg : Gl X "list") (hm : X.mg "list" = none) (ha : XA X [e] wa)
    (he : starEach [e] X.env = (false, eval e X.env) :: starEach [] X.env := by rfl) (hpl : (backTo pos (starEach [] X.env)).any (·.1) = false := by rfl) :
    XE X (.Call (.Name "list" p) [e] [] pos) (wCB dListK wa) := xe_callTy (call_list_dK hc) opn_listK hg hm (by decide +kernel) ha (by decide) (by decide) he hpl
end
end DL
/-! DL: defs that may raise, with one keyword-only parameter, its default an int -/
namespace DL
open PySem PySem.Spec PyProof.Rows L2
/-- such a def of the text in the written part -/
structure DefW (K : PySem.W.Frag) (x : Str) (st : Stmt) (kw : Str) (dv : Int) : Prop where
  ex : ∃ (f D : Addr) (od an : Option Addr) (sl : Array (Option Value)) (oc dc pm cd ct : Value) (t : Tok), PySem.W.nsIn K mainGlobals x = some (some (.ref f)) ∧
    K.lookup f = some ⟨oc, od, .func (PySem.W.fnOf x x (defArgs st) (defBody st) (defScope st) .none (.ref D) dc pm an cd ct), sl⟩ ∧ PySem.W.codeIn K cd x = true ∧ PySem.W.keepIn K (.ref f) = true ∧ PySem.W.nsIn K D kw = some (some (.int dv t))
theorem DefW.mk5 {K : PySem.W.Frag} {x : Str} {st : Stmt} {kw : Str} {dv : Int} {f D : Addr} {od an : Option Addr} {sl : Array (Option Value)} {oc dc pm cd ct : Value} {t : Tok} (a : PySem.W.nsIn K mainGlobals x = some (some (.ref f)))
    (l : K.lookup f = some ⟨oc, od, .func (PySem.W.fnOf x x (defArgs st) (defBody st) (defScope st) .none (.ref D) dc pm an cd ct), sl⟩) (c : PySem.W.codeIn K cd x = true) (kp : PySem.W.keepIn K (.ref f) = true) (d : PySem.W.nsIn K D kw = some (some (.int dv t))) : DefW K x st kw dv :=
  ⟨_, _, _, _, _, _, _, _, _, _, _, a, l, c, kp, d⟩
/-- how its arguments are bound, n of them by place -/
structure BndW (x : Str) (st : Stmt) (ps : List Str) (n : Nat) (kw : Str) : Prop where
  dft : ∀ (D : Addr) (doc pm : Value) (an : Option Addr) (cdv ct : Value) (us : List Value) (u : Value), us.length = n → KwChain D [(kw, u)] (bindArgs (PySem.W.fnOf x x (defArgs st) (defBody st) (defScope st) .none (.ref D) doc pm an cdv ct) ⟨us, []⟩) (ps.zip (us ++ [u]))
  giv : ∀ (kV doc pm : Value) (an : Option Addr) (cdv ct : Value) (us : List Value) (u : Value), us.length = n → bindArgs (PySem.W.fnOf x x (defArgs st) (defBody st) (defScope st) .none kV doc pm an cdv ct) ⟨us, [(kw, u)]⟩ = pure (ps.zip (us ++ [u]))
  len : n + 1 = ps.length
structure CaW (P : Program) (w : World) (K : PySem.W.Frag) (mg : Str → Option Value) (base : Heap) (k : Nat) (x : Str) (ps : List Str) (n : Nat) (kw : Str) (dv : Int) (sp : DSpX) : Prop where
  ex : ∃ f fd u, FnG P w K mg base (L2.CX P w) k f fd ps (spX K mg sp) ∧ mg x = some (.ref f) ∧ PySem.W.keepIn K (.ref f) = true ∧ RelV (.int dv) u ∧ Binds K fd ps [u] ∧ KBn K fd ps n [kw] (fun us ws => us ++ ws) (fun vs zs => vs ++ zs)
section
variable {P : Program} {w : World} {K : PySem.W.Frag} {mg : Str → Option Value} {base h : Heap} {k n : Nat} {ps : List Str} {x kw : Str} {st : Stmt} {N : List Str} {dv : Int}
theorem caW {sp : DSpX} (D : DefW K x st kw dv) (X : K.In h) (G : h.Ns mainGlobals mg) (Sc : FnScope N ps (defScope st)) (b : BndW x st ps n kw) (len : ∀ ds Φ Ψ, sp ds Φ Ψ → ds.length = ps.length)
    (body : ∀ (f : Addr) (cdv : Value) (A : Around) (outer : List Env) (s : Shared) (H : Hp) (E : XK), (A.deeper (envOfC x (defScope st) s.heap.objs.size f cdv)).guards = some [] → Room k (A.deeper (envOfC x (defScope st) s.heap.objs.size f cdv)) →
      ∃ wd, XSs (cxOf (L2.CX P w) P w K mg base N x (defScope st) f cdv A outer s H E) (defBody st) wd ∧ ∀ ds Φ Ψ, sp ds Φ Ψ → wd (endX Φ Ψ) ⟨startE N (ds.map .d), []⟩) : CaW P w K mg base (k + 1) x ps n kw dv sp := by
  obtain ⟨f, Dk, od, an, sl, oc, dc, pm, cd, ct, t, a, l, c, kp, d⟩ := D.ex
  refine ⟨f, _, .int dv t, fn_X (fun_mk l c kp) Sc len (body f), PySem.W.mg_of X G a, kp, ⟨t, rfl⟩, fun s us Y hl => ?_, ⟨fun s us ws Y l1 l2 => ?_, fun r1 r2 => r1.append r2⟩⟩
  · have hn : us.length = n := by
      rw [List.length_append] at hl
      have := b.len
      simp only [List.length_cons, List.length_nil] at hl
      omega
    refine BindsTo.of_looks fun M => KwChain.looks Y (fun q hq => ?_) (b.dft Dk dc pm an cd ct us (.int dv t) hn)
    rw [List.mem_singleton.mp hq]
    exact d
  · match ws, l2 with
    | [u], _ => exact .of_eq (b.giv (.ref Dk) dc pm an cd ct us u l1)
end
section
variable {X : Cx} {k kX n : Nat} {sp : DSpX} {x kw : Str} {ps : List Str} {p pos pos2 kpos : Pos} {e ke : Expr} {es : List Expr} {wa : DA} {wk : DE} {dv : Int}
/-- f(e, ..) with the default -/
@[simp] def wExpW (sp : DSpX) (dv : Int) (wa : DA) : DS := fun Φ s => wa s fun ds s1 => sp (ds ++ [.int dv]) (fun _ => Φ.nx s1) fun c xs => Φ.ex c xs s1
/-- f(e, .., kw = e') -/
@[simp] def wExpKw (n : Nat) (sp : DSpX) (wa : DA) (wk : DE) : DS := fun Φ s => wa s fun ds s1 => ds.length = n ∧ wk s1 fun z s2 => sp (ds ++ [z]) (fun _ => Φ.nx s2) fun c xs => Φ.ex c xs s2
theorem dqa_snoc {K : PySem.W.Frag} {F : Hp} {vs : List V} {ds : List PyData} {v : V} {d : PyData} (h : DqA K F vs ds) (q : Dq K F v d) : DqA K F (vs ++ [v]) (ds ++ [d]) := h.append (.cons q .nil)
theorem run_W {f : Addr} {fd : FuncData} {pins : List (Addr × Obj)} {σ : L2.St} {H : Hp} {s : Shared} {Q : VK} {W : WX} {args : Args} {us : List Value} {vs : List V} {s2 : Sp} (F : FnG X.prog X.w X.K X.mg X.base (L2.CX X.prog X.w) k f fd ps s2) (hgd : X.A.guards = some []) (hr : Room k X.A) (tk : Takes X W)
    (J : Inv X pins σ H s) (bb : BindsTo s fd args (ps.zip us)) (rr : Vals vs us) (q : s2 vs H Q (WE W σ)) : wpAny (model X.prog X.w) X.A (call (.ref f) args.pos args.kw) (EP X pins σ Q) X.xe s := by
  refine wpAny_call (codeAny_mono (F.go X.A X.stack s H args us vs Q (WE W σ) hgd hr J.env0 bb rr q) fun r s' hq => ?_)
  match r, hq with
  | .error e, hq => exact passAt tk σ pins H s e s' J hq
  | .ok (.ret u), hq => exact J.after hq
  | .ok .next, hq => exact hq.elim
  | .ok .brk, hq => exact hq.elim
  | .ok .cont, hq => exact hq.elim
theorem c_expW (C : CaW X.prog X.w X.K X.mg X.base k x ps n kw dv sp) (hgd : X.A.guards = some []) (hr : Room kX X.A) (hk : k ≤ kX) (hg : Gl X x) (ha : XA X (e :: es) wa)
    (hdb : (x == ("__debug__" : Str)) = false := by decide) (he : starEach (e :: es) X.env = (false, eval e X.env) :: starEach es X.env := by rfl) (hpl : (backTo pos (starEach es X.env)).any (·.1) = false := by rfl)
    (hs : swapsWith (.Call (.Name x p) (e :: es) [] pos) none pos2.line X.env = pure false := by rfl) :
    XS X (.Expr (.Call (.Name x p) (e :: es) [] pos) pos2) (wExpW sp dv wa) := by
  obtain ⟨f, fd, u, F, gm, kp, ru, b, _⟩ := C.ex
  have pe : PE X (.Call (.Name x p) (e :: es) [] pos) (fun σ H Q => tA X.K wa σ H fun vs H1 => spX X.K X.mg sp (vs ++ [.int dv]) H1 Q (WE (wishOf X) σ)) :=
    ⟨fun pins s σ H Q I h => wpAny_Call_Name_kw (ld_glob I hg gm (PySem.W.callWith_K (h₀ := X.base) I.ok.mod.kin kp (thn (ha.run pos pins s σ H _ I h) fun us s1 ⟨vs, H1, J, r, q⟩ => ⟨J.kIn, by
      have rr : Vals (vs ++ [V.int dv]) (us ++ [u]) := r.append (.cons ru .nil)
      exact run_W (args := ⟨us, []⟩) F hgd (hr.mono hk) (takes_wish X) J (b s1 us J.kIn (by rw [← rr.length]; exact F.len _ _ _ _ q)) rr q⟩) he hpl) hdb)⟩
  refine ps_imp (ps_expr pe hs) fun D σ H h => ?_
  obtain ⟨G, P, F, s, Φ, R, h, b⟩ := h
  refine ⟨G, P, F, s, _, R, h, fun vs F1 H1 s1 ds R1 e1 d1 q => ?_⟩
  exact ⟨F1, ds ++ [.int dv], _, _, ⟨R1.same, R1.tabF⟩, dqa_snoc d1 (.int dv), q, fun v F' H' x fr dx qx => b.nx σ F' H' s1 (R1.fresh fr) (e1.trans fr.ff) qx, fun c xs F' H' fr qx => b.ex c xs σ F' H' s1 (R1.fresh fr) (e1.trans fr.ff) qx⟩
theorem c_expKw (C : CaW X.prog X.w X.K X.mg X.base k x ps n kw dv sp) (hgd : X.A.guards = some []) (hr : Room kX X.A) (hk : k ≤ kX) (hg : Gl X x) (ha : XA X (e :: es) wa) (hke : XE X ke wk)
    (hdb : (x == ("__debug__" : Str)) = false := by decide) (he : starEach (e :: es) X.env = (false, eval e X.env) :: starEach es X.env := by rfl)
    (hall : (backToKw pos (keywordEach [⟨some kw, ke, kpos⟩] X.env)).all (·.1.isSome) = true := by rfl) (hks : (backToKw pos (keywordEach [⟨some kw, ke, kpos⟩] X.env)).filterMap (·.1) = [kw] := by rfl)
    (hpl : ((backTo pos (starEach (e :: es) X.env)).any (·.1) || (backToKw pos (keywordEach [⟨some kw, ke, kpos⟩] X.env)).any (·.1.isNone)) = false := by rfl)
    (hs : swapsWith (.Call (.Name x p) (e :: es) [⟨some kw, ke, kpos⟩] pos) none pos2.line X.env = pure false := by rfl) :
    XS X (.Expr (.Call (.Name x p) (e :: es) [⟨some kw, ke, kpos⟩] pos) pos2) (wExpKw n sp wa wk) := by
  obtain ⟨f, fd, u, F, gm, kp, ru, _, kb⟩ := C.ex
  have pe : PE X (.Call (.Name x p) (e :: es) [⟨some kw, ke, kpos⟩] pos) (fun σ H Q => tA X.K wa σ H fun vs H1 => (tCons (tE X.K wk) tNil) σ H1 fun zs H2 => vs.length = n ∧ zs.length = 1 ∧ spX X.K X.mg sp (vs ++ zs) H2 Q (WE (wishOf X) σ)) := by
    refine ⟨fun pins s σ H Q I h => wpAny_Call_Name_kw (ld_glob I hg gm ?_ hdb)⟩
    refine PySem.W.callWith_KW (h₀ := X.base) I.ok.mod.kin kp hall (thn (ha.run pos pins s σ H _ I h) fun us s1 ⟨vs, H1, I1, r, q⟩ => ?_) hpl he
    refine thn ((pk_cons hke pk_nil).run pos pins s1 σ H1 _ I1 q) fun ws s2 ⟨zs, H2, I2, rz, l1, l2, q2⟩ => ⟨I2.kIn, ?_⟩
    rw [hks]
    exact run_W (args := ⟨us, [kw].zip ws⟩) F hgd (hr.mono hk) (takes_wish X) I2 (kb.to s2 us ws I2.kIn (by rw [← r.length]; exact l1) (by rw [← rz.length]; exact l2)) (kb.rel r rz) q2
  refine ps_imp (ps_expr pe hs) fun D σ H h => ?_
  obtain ⟨G, P, F, s, Φ, R, h, b⟩ := h
  refine ⟨G, P, F, s, _, R, h, fun vs F1 H1 s1 ds R1 e1 d1 q => ?_⟩
  obtain ⟨ln, q⟩ := q
  refine ⟨G, P, F1, s1, _, R1, q, fun z F2 H2 s2 dz R2 e2 d2 q2 => ?_⟩
  exact ⟨by rw [d1.length]; exact ln, rfl, F2, ds ++ [dz], _, _, ⟨R2.same, R2.tabF⟩, dqa_snoc (d1.mono e2) d2, q2, fun v F' H' x fr dx qx => b.nx σ F' H' s2 (R2.fresh fr) ((e1.trans e2).trans fr.ff) qx, fun c xs F' H' fr qx => b.ex c xs σ F' H' s2 (R2.fresh fr) ((e1.trans e2).trans fr.ff) qx⟩
end
end DL
/-! DL: how defs stand whose body holds a lambda -/
namespace DL
open PySem PySem.Spec PyProof.Rows L2
section
variable {P : Program} {w : World} {K : PySem.W.Frag} {mg : Str → Option Value} {base h : Heap} {k : Nat} {ps : List Str} {x : Str} {st : Stmt} {N : List Str}
theorem caDL {sp : DSp} (hx : x ∈ lamNames) (nt : ∀ b, ¬ TabK K b) (D : CodeD K x st) (X : K.In h) (G : h.Ns mainGlobals mg) (Sc : FnScope N ps (defScope st)) (b : Bnd x st ps) (len : ∀ ds Φ, sp ds Φ → ds.length = ps.length)
    (body : ∀ (f : Addr) (cdv : Value) (T : Addr), CodeL K cdv T → ∀ (A : Around) (outer : List Env) (s : Shared) (H : Hp) (E : XK), (A.deeper (envOfC x (defScope st) s.heap.objs.size f cdv)).guards = some [] → Room k (A.deeper (envOfC x (defScope st) s.heap.objs.size f cdv)) →
      ∃ wd, XSs (cxOf CX0 P w K mg base N x (defScope st) f cdv A outer s H E).nox (defBody st) wd ∧ ∀ ds Φ, sp ds Φ → wd (endD Φ) ⟨startE N (ds.map .d), []⟩) : Ca P w K mg base (k + 1) x ps (spD K sp) := by
  obtain ⟨f, c, T, od, an, sl, oc, kV, dc, pm, ct, a, l, kc, kp, e⟩ := D.ex
  have F : Fun K x x st f (PySem.W.fnOf x x (defArgs st) (defBody st) (defScope st) .none kV dc pm an (.ref c) ct) := fun_mk l kc kp
  refine ⟨f, _, fn_DC F Sc len (fun cdv hc => ?_), PySem.W.mg_of X G a, kp, F.binds b⟩
  cases (show cdv = .ref c from hc.symm)
  exact body f _ T (codeL_of hx (nt T) a l rfl rfl e)
end
end DL
namespace DL
open PySem PySem.Spec PyProof.Rows L2
/-- a text in the module -/
def gc_str {K : PySem.W.Frag} {mg : Str → Option Value} {h : Heap} (X : K.In h) (G : h.Ns mainGlobals mg) {x : Str} {i : Str} {t : Tok} (a : PySem.W.nsIn K mainGlobals x = some (some (.str i t))) : Gc K mg x (.str i) where
  v := .str i
  u := .str i t
  mg := PySem.W.mg_of X G a
  rel := ⟨t, rfl⟩
  dq := fun _ => .str i
end DL
/-! the promises of law k01's defs -/
namespace L01
open PySem PySem.Spec PyProof.Rows L2 DL
def ERL : List Str := ["HallError", "BadLetters", "BadWord", "BadSize"]
def ER0 : List Str := ["HallError", "BadLetters"]
def FLE : List Str := ["place", "size"]
def bE (x c : Str) : Bool := x == c || x == "HallError"
def d_MOST_LETTERS : PyData := .int 6
def d_ALPHABET : PyData := .str "abcdefghijklmnopqrstuvwxyz"
def sp_letters2 : DSpP := fun ds q Φ => ∃ m, ds = [.int m] ∧ 1 ≤ m ∧ m ≤ 6 ∧ PoolOk q ∧ ∀ z q', PoolOk q' → Letters m z → z.cps.toList.Nodup → Φ (.str z) q'
/-- 1 to 6 different signs from a to z -/
def azOk (t : Str) : Bool := decide (1 ≤ t.length) && decide (t.length ≤ 6) && t.cps.toList.all (fun c => decide (97 ≤ c) && decide (c ≤ 122)) && decide t.cps.toList.Nodup
def sp_check_letters : DSpX := fun ds Φ Ψ => ∃ t : Str, ds = [.str t] ∧ t.length ≤ 60 ∧ (azOk t = true → Φ .none) ∧ (azOk t = false → Ψ "BadLetters" [])
def sp_law_are_letters : DSp := fun ds Φ => ∃ t : Str, ds = [.str t] ∧ t.length ≤ 60 ∧ Φ (.bool (azOk t))
def sp_law_checked : DSp := fun ds Φ => ∃ t : Str, ds = [.str t] ∧ t.length ≤ 60 ∧ Φ (.bool (azOk t))
/-- the place of the first sign that is no letter -/
def badAt (z : Str) (w : Str) : Option Nat := w.cps.toList.findIdx? fun c => !decide (c ∈ z.cps.toList)
def sp_check_word : DSpX := fun ds Φ Ψ => ∃ (z w : Str) (m : Int), ds = [.str z, .str w, .int m] ∧ z.length ≤ 60 ∧ w.length ≤ 300 ∧ (∀ i, badAt z w = some i → Ψ "BadWord" [.tuple [.str "place", .int (i : Nat)]]) ∧
  (badAt z w = none → ((w.length : Int) > m → Ψ "BadSize" [.tuple [.str "size", .int (w.length : Nat)]]) ∧ ((w.length : Int) ≤ m → Φ .none))
/-- what is told of a word -/
def toldD (z w : Str) (m : Int) : PyData := match badAt z w with
  | some i => .tuple [.str "word", .int (i : Nat)]
  | none => if (w.length : Int) > m then .tuple [.str "size", .int (w.length : Nat)] else .tuple [.str "good", .int 0]
def sp_law_told : DSp := fun ds Φ => ∃ (z w : Str), z.length ≤ 60 ∧ w.length ≤ 300 ∧ ((ds = [.str z, .str w, .none] ∧ Φ (toldD z w 200)) ∨ ∃ m : Int, ds = [.str z, .str w, .int m] ∧ Φ (toldD z w m))
/-- one word stands ahead of another one -/
def ahead (v w : List Nat) : Bool := decide (v.length < w.length) || (decide (v.length = w.length) && decide (v < w))
def wdD (z : Str) (w : List Nat) : PyData := .str (wS z w)
def WordsOk (z : Str) (L : List (List Nat)) : Prop := L.length ≤ 60 ∧ ∀ w, w ∈ L → w.length ≤ 60 ∧ ∀ a, a ∈ w → a < z.length
def sp_in_order : DSp := fun ds Φ => ∃ (z : Str) (L : List (List Nat)), ds = [.str z, .list (L.map (wdD z))] ∧ z.length ≤ 6 ∧ z.cps.toList.Nodup ∧ WordsOk z L ∧
  ∀ R : List (List Nat), (∀ w, w ∈ R ↔ w ∈ L) → R.length ≤ 60 → R.Pairwise (fun v w => ahead v w = true) → Φ (.list (R.map (wdD z)))
def sp_law_ahead : DSp := fun ds Φ => ∃ (z : Str) (v w : List Nat), ds = [.str z, wdD z v, wdD z w] ∧ z.length ≤ 6 ∧ z.cps.toList.Nodup ∧ v.length ≤ 60 ∧ w.length ≤ 60 ∧ (∀ a, a ∈ v → a < z.length) ∧ (∀ a, a ∈ w → a < z.length) ∧ ahead v w = true ∧ Φ (.bool true)
end L01
namespace L01
open PySem PySem.Spec PyProof.Rows L2 DL PyProof.Rows
def topS (i : Nat) : Stmt := PySem.Challenge.pw_hallofwords_k01_letters_and_words.main.body.getD i (.Pass ⟨0, 0, 0, 0⟩)
section
variable {P : Program} {w : World} {K : PySem.W.Frag} {mg : Str → Option Value} {base : Heap} {k : Nat}
abbrev s__law_pool : Stmt := topS 12
theorem sc__law_pool : FnScope ["script", "pool", "state", "k", "cell", "step", "one", "two"] ["script"] (defScope s__law_pool) := ⟨rfl, rfl, rfl, by decide +kernel, rfl, by decide +kernel, by decide +kernel⟩
def W__law_pool : DS := (wSeq (wSetO 1 (wLst wNil))
    (wSeq (wSet 2 (wC (.int 17)))
    (wSeq (wFor (wRng1 (wCons (wCB (wN2 gMin) (wCons (wScLen 0) (wCons (wC (.int 63)) wNil))) wNil)) (gNm 3) (wSeq (wSet 4 (wScIxA 0 (wVar 3)))
    (wSeq (wSet 2 (wBin wMod (wCB (wN1 gInt) (wCons (wBin wAdd (wBin wAdd (wBin wMul (wVar 2) (wC (.int 69621))) (wBin wMul (wVar 4) (wC (.int 48271)))) (wVar 3)) wNil)) (wC (.int 2147483647))))
    (wIfS (wTst (wBin wGe (wVar 4) (wBin wPow (wC (.int 10)) (wC (.int 18))))) (wFor (wRng1 (wCons (wC (.int 60)) wNil)) (gNm 5) (wSeq (wIfS (wTst (wBin (wEq false) (wVar 4) (wC (.int 0)))) wBk wNext)
    (wSeq (wApp 1 (wBin wMod (wCB (wN1 gInt) (wCons (wVar 4) wNil)) (wC (.int 60))))
    (wSet 4 (wBin wDiv (wVar 4) (wC (.int 60))))))) (wSeq (wSet 6 (wBin wMod (wCB (wN1 gInt) (wCons (wBin wAdd (wBin wAdd (wBin wMul (wVar 4) (wC (.int 48271))) (wBin wMul (wVar 3) (wC (.int 69621)))) (wC (.int 7))) wNil)) (wC (.int 2147483647))))
    (wSeq (wSet 7 (wBin wMod (wCB (wN1 gInt) (wCons (wBin wAdd (wBin wAdd (wBin wMul (wVar 6) (wC (.int 16807))) (wBin wMul (wVar 4) (wC (.int 31)))) (wVar 3)) wNil)) (wC (.int 1000003))))
    (wSetO 1 (wBinL wCat (wVar 1) (wFz (wLst (wCons (wBin wMod (wCB (wN1 gInt) (wCons (wBin wDiv (wVar 6) (wC (.int 11))) wNil)) (wC (.int 60))) (wCons (wBin wMod (wCB (wN1 gInt) (wCons (wVar 7) wNil)) (wC (.int 60))) wNil))))))))))))
    (wSeq (wFor (wRng1 (wCons (wC (.int 300)) wNil)) (gNm 5) (wSeq (wSet 2 (wBin wMod (wCB (wN1 gInt) (wCons (wBin wAdd (wBin wMul (wVar 2) (wC (.int 48271))) (wC (.int 11))) wNil)) (wC (.int 2147483647))))
    (wApp 1 (wBin wMod (wCB (wN1 gInt) (wCons (wBin wDiv (wVar 2) (wC (.int 97))) wNil)) (wC (.int 60))))))
    (wRetO 1)))))
theorem dv__law_pool (B : Bi mg) {f : Addr} (cdv : Value) (A : Around) (outer : List Env) (s : Shared) (H : Hp) (E : XK) (hgd : (A.deeper (envOfC "_law_pool" (defScope s__law_pool) s.heap.objs.size f cdv)).guards = some []) (hr : Room 0 (A.deeper (envOfC "_law_pool" (defScope s__law_pool) s.heap.objs.size f cdv))) :
    XSs (cxOf CX0 P w K mg base ["script", "pool", "state", "k", "cell", "step", "one", "two"] "_law_pool" (defScope s__law_pool) f cdv A outer s H E).nox (defBody s__law_pool) (W__law_pool) := by
  have nd := sc__law_pool.nd
  exact (xs_cons (xs_setO (i := 1) nd rfl (Or.inl rfl) (xl_lst xa_nil))
    (xs_cons (xs_set (i := 2) nd rfl (Or.inl rfl) xe_int)
    (xs_cons (xs_for PassesOwn.never rfl (xi_range1 rfl B.range (xa_cons (xe_callB (call_min2 rfl) opn_min2 rfl B.min bb_min (xa_cons (xe_scLen (i := 0) rfl B.len (pv 0)) (xa_cons xe_int xa_nil))) xa_nil)) (xg_name (i := 3) nd rfl (Or.inl rfl)) (xs_cons (xs_set (i := 4) nd rfl (Or.inl rfl) (xe_scIx (i := 0) (pv 0) (xe_var 3)))
    (xs_cons (xs_set (i := 2) nd rfl (Or.inl rfl) (xe_op op_mod o_mod (xe_callTy call_int1 opn_int rfl B.int bb_int (xa_cons (xe_op opr_plus op2_plus (xe_op opr_plus op2_plus (xe_op op_mul o_mul (xe_var 2) xe_int) (xe_op op_mul o_mul (xe_var 4) xe_int)) (xe_var 3)) xa_nil)) xe_int))
    (xs_one (xs_if (xt_cmp op_ge o_ge (xe_var 4) (xe_op op_pow o_pow xe_int xe_int)) (xs_one (xs_for PassesOwn.never rfl (xi_range1 rfl B.range (xa_cons xe_int xa_nil)) (xg_name (i := 5) nd rfl (Or.inl rfl)) (xs_cons (xs_if (xt_cmp (opr_eq hr.units) op2_eq (xe_var 4) xe_int) (xs_one xs_break) xs_nil)
    (xs_cons (xs_append (i := 1) (pv 1) (xe_op op_mod o_mod (xe_callTy call_int1 opn_int rfl B.int bb_int (xa_cons (xe_var 4) xa_nil)) xe_int))
    (xs_one (xs_set (i := 4) nd rfl (Or.inl rfl) (xe_op op_fdiv o_div (xe_var 4) xe_int))))))) (xs_cons (xs_set (i := 6) nd rfl (Or.inl rfl) (xe_op op_mod o_mod (xe_callTy call_int1 opn_int rfl B.int bb_int (xa_cons (xe_op opr_plus op2_plus (xe_op opr_plus op2_plus (xe_op op_mul o_mul (xe_var 4) xe_int) (xe_op op_mul o_mul (xe_var 3) xe_int)) xe_int) xa_nil)) xe_int))
    (xs_cons (xs_set (i := 7) nd rfl (Or.inl rfl) (xe_op op_mod o_mod (xe_callTy call_int1 opn_int rfl B.int bb_int (xa_cons (xe_op opr_plus op2_plus (xe_op opr_plus op2_plus (xe_op op_mul o_mul (xe_var 6) xe_int) (xe_op op_mul o_mul (xe_var 4) xe_int)) (xe_var 3)) xa_nil)) xe_int))
    (xs_one (xs_setO (i := 1) nd rfl (Or.inl rfl) (xl_op op_cat op2L_cat (xe_var 1) (xl_fz (xl_lst (xa_cons (xe_op op_mod o_mod (xe_callTy call_int1 opn_int rfl B.int bb_int (xa_cons (xe_op op_fdiv o_div (xe_var 6) xe_int) xa_nil)) xe_int) (xa_cons (xe_op op_mod o_mod (xe_callTy call_int1 opn_int rfl B.int bb_int (xa_cons (xe_var 7) xa_nil)) xe_int) xa_nil))))))))))))))
    (xs_cons (xs_for PassesOwn.never rfl (xi_range1 rfl B.range (xa_cons xe_int xa_nil)) (xg_name (i := 5) nd rfl (Or.inl rfl)) (xs_cons (xs_set (i := 2) nd rfl (Or.inl rfl) (xe_op op_mod o_mod (xe_callTy call_int1 opn_int rfl B.int bb_int (xa_cons (xe_op opr_plus op2_plus (xe_op op_mul o_mul (xe_var 2) xe_int) xe_int) xa_nil)) xe_int))
    (xs_one (xs_append (i := 1) (pv 1) (xe_op op_mod o_mod (xe_callTy call_int1 opn_int rfl B.int bb_int (xa_cons (xe_op op_fdiv o_div (xe_var 2) xe_int) xa_nil)) xe_int)))))
    (xs_one (xs_retO (i := 1) (pv 1)))))))
abbrev s__law_stream : Stmt := topS 13
theorem sc__law_stream : FnScope ["script"] ["script"] (defScope s__law_stream) := ⟨rfl, rfl, rfl, by decide +kernel, rfl, by decide +kernel, by decide +kernel⟩
def W__law_stream : DS := (wRetL (wBinL wCat (wFz (wLst (wCons (wC (.int 0)) wNil))) (wFz (wCallS 0 sp_pool))))
theorem dv__law_stream (c__law_pool : Ca P w K mg base 1 "_law_pool" ["script"] (spS K sp_pool)) {f : Addr} (cdv : Value) (A : Around) (outer : List Env) (s : Shared) (H : Hp) (E : XK) (hgd : (A.deeper (envOfC "_law_stream" (defScope s__law_stream) s.heap.objs.size f cdv)).guards = some []) (hr : Room 1 (A.deeper (envOfC "_law_stream" (defScope s__law_stream) s.heap.objs.size f cdv))) :
    XSs (cxOf CX0 P w K mg base ["script"] "_law_stream" (defScope s__law_stream) f cdv A outer s H E).nox (defBody s__law_stream) (W__law_stream) := by
  have nd := sc__law_stream.nd
  exact (xs_one (xs_retL (xl_op op_cat op2L_cat (xl_fz (xl_lst (xa_cons xe_int xa_nil))) (xl_fz (c_callS (i := 0) c__law_pool hgd hr (by omega) rfl (pv 0))))))
abbrev s__law_pick : Stmt := topS 14
theorem sc__law_pick : FnScope ["pool", "many"] ["pool", "many"] (defScope s__law_pick) := ⟨rfl, rfl, rfl, by decide +kernel, rfl, by decide +kernel, by decide +kernel⟩
def W__law_pick : DS := (wSeq (wPlSet 0 (wC (.int 0)) (wBin wAdd (wC (.int 1)) (wBin wMod (wCB (wN1 gInt) (wCons (wPlIx 0 (wC (.int 0))) wNil)) (wBin wSub (wPlLen 0) (wC (.int 1))))))
    (wRet (wBin wMod (wCB (wN1 gInt) (wCons (wPlIx 0 (wPlIx 0 (wC (.int 0)))) wNil)) (wVar 1))))
theorem dv__law_pick (B : Bi mg) {f : Addr} (cdv : Value) (A : Around) (outer : List Env) (s : Shared) (H : Hp) (E : XK) (hgd : (A.deeper (envOfC "_law_pick" (defScope s__law_pick) s.heap.objs.size f cdv)).guards = some []) (hr : Room 0 (A.deeper (envOfC "_law_pick" (defScope s__law_pick) s.heap.objs.size f cdv))) :
    XSs (cxOf CX0 P w K mg base ["pool", "many"] "_law_pick" (defScope s__law_pick) f cdv A outer s H E).nox (defBody s__law_pick) (W__law_pick) := by
  have nd := sc__law_pick.nd
  exact (xs_cons (xs_plSet (i := 0) (pv 0) xe_int (xe_op opr_plus op2_plus xe_int (xe_op op_mod o_mod (xe_callTy call_int1 opn_int rfl B.int bb_int (xa_cons (xe_plIx (i := 0) (pv 0) xe_int) xa_nil)) (xe_op op_sub o_sub (xe_plLen (i := 0) rfl B.len (pv 0)) xe_int))))
    (xs_one (xs_ret (xe_op op_mod o_mod (xe_callTy call_int1 opn_int rfl B.int bb_int (xa_cons (xe_plIx (i := 0) (pv 0) (xe_plIx (i := 0) (pv 0) xe_int)) xa_nil)) (xe_var 1)))))
abbrev s__law_letters : Stmt := topS 15
theorem sc__law_letters : FnScope ["pool", "most", "many", "signs", "at", "step", "k"] ["pool", "most"] (defScope s__law_letters) := ⟨rfl, rfl, rfl, by decide +kernel, rfl, by decide +kernel, by decide +kernel⟩
def W__law_letters : DS := (wSeq (wSet 2 (wBin wAdd (wC (.int 1)) (wCallP 0 sp_pick (wCons (wVar 1) wNil))))
    (wSeq (wSet 3 (wC (.str ("abcdefghijklmnopqrstuvwxyz" : Str))))
    (wSeq (wAsgT (wTup (wCons (wCallP 0 sp_pick (wCons (wC (.int 26)) wNil)) (wCons (wBin wIx (wFz (wLst (wCons (wC (.int 1)) (wCons (wC (.int 3)) (wCons (wC (.int 5)) (wCons (wC (.int 7)) (wCons (wC (.int 9)) (wCons (wC (.int 11)) wNil)))))))) (wCallP 0 sp_pick (wCons (wC (.int 6)) wNil))) wNil))) (gTp 2 (gCs (gNm 4) (gCs (gNm 5) gNl))))
    (wRet (wJoin (wC (.str ("" : Str))) (wFz (wLc [6] (wRng1 (wCons (wVar 2) wNil)) (gNm 6) wYes (wBin wIx (wVar 3) (wBin wMod (wCB (wN1 gInt) (wCons (wBin wAdd (wVar 4) (wBin wMul (wVar 5) (wVar 6))) wNil)) (wC (.int 26)))))))))))
theorem dv__law_letters (B : Bi mg) (c__law_pick : Ca P w K mg base 1 "_law_pick" ["pool", "many"] (spP K sp_pick)) {f : Addr} (cdv : Value) (A : Around) (outer : List Env) (s : Shared) (H : Hp) (E : XK) (hgd : (A.deeper (envOfC "_law_letters" (defScope s__law_letters) s.heap.objs.size f cdv)).guards = some []) (hr : Room 1 (A.deeper (envOfC "_law_letters" (defScope s__law_letters) s.heap.objs.size f cdv))) :
    XSs (cxOf CX0 P w K mg base ["pool", "most", "many", "signs", "at", "step", "k"] "_law_letters" (defScope s__law_letters) f cdv A outer s H E).nox (defBody s__law_letters) (W__law_letters) := by
  have nd := sc__law_letters.nd
  exact (xs_cons (xs_set (i := 2) nd rfl (Or.inl rfl) (xe_op opr_plus op2_plus xe_int (c_callP (i := 0) c__law_pick hgd hr (by omega) rfl (pv 0) (xa_cons (xe_var 1) xa_nil))))
    (xs_cons (xs_set (i := 3) nd rfl (Or.inr rfl) xe_str)
    (xs_cons (xs_asgT (xe_tup (xa_cons (c_callP (i := 0) c__law_pick hgd hr (by omega) rfl (pv 0) (xa_cons xe_int xa_nil)) (xa_cons (xe_ixR ix_seq op2_ix (xl_fz (xl_lst (xa_cons xe_int (xa_cons xe_int (xa_cons xe_int (xa_cons xe_int (xa_cons xe_int (xa_cons xe_int xa_nil)))))))) (c_callP (i := 0) c__law_pick hgd hr (by omega) rfl (pv 0) (xa_cons xe_int xa_nil))) xa_nil))) (xg_tup rfl (xgs_cons (xg_name (i := 4) nd rfl (by first | exact Or.inl rfl | exact Or.inr rfl)) (xgs_cons (xg_name (i := 5) nd rfl (by first | exact Or.inl rfl | exact Or.inr rfl)) xgs_nil))))
    (xs_one (xs_ret (xe_join xe_str (xl_fz (xl_lc (own := [(("k" : Str), 6)]) rfl nd (xi_range1 rfl B.range (xa_cons (xe_var 2) xa_nil)) (blkOk_by (N := ["pool", "most", "many", "signs", "at", "step", "k"]) (sc := (defScope s__law_letters)) (by decide +kernel)) (by decide) (fun _ _ _ _ _ => (xg_name (i := 6) nd rfl (Or.inl rfl))) (fun _ _ _ _ _ => xts_nil) (fun _ _ _ _ _ => (xe_ixR ix_seq op2_ix (xe_var 3) (xe_op op_mod o_mod (xe_callTy call_int1 opn_int rfl B.int bb_int (xa_cons (xe_op opr_plus op2_plus (xe_var 4) (xe_op op_mul o_mul (xe_var 5) (xe_var 6))) xa_nil)) xe_int)))))))))))
abbrev s_check_letters : Stmt := topS 8
theorem sc_check_letters : FnScope ["letters", "place", "sign"] ["letters"] (defScope s_check_letters) := ⟨rfl, rfl, rfl, by decide +kernel, rfl, by decide +kernel, by decide +kernel⟩
def W_check_letters : DS := (wSeq (wIfS (wNot (wTst (wChain wLe wLe (wC (.int 1)) (wCB (wN1 gLen) (wCons (wVar 0) wNil)) (wC d_MOST_LETTERS)))) (wRaise "BadLetters") wNext)
    (wFor (wEnum2 (wCons (wVar 0) wNil)) (gTp 2 (gCs (gNm 1) (gCs (gNm 2) gNl))) (wIfS (wOr (wTst (wBin (wIn true) (wVar 2) (wC d_ALPHABET))) (wTst (wBin (wIn false) (wVar 2) (wSl (wVar 0) wNoP (wPart (wVar 1)))))) (wRaise "BadLetters") wNext)))
theorem dv_check_letters (B : Bi mg) (g_ALPHABET : Gc K mg "ALPHABET" d_ALPHABET) (g_MOST_LETTERS : Gc K mg "MOST_LETTERS" d_MOST_LETTERS) (T_BadLetters : ExC K mg "BadLetters") {f : Addr} (cdv : Value) (A : Around) (outer : List Env) (s : Shared) (H : Hp) (E : XK) (hgd : (A.deeper (envOfC "check_letters" (defScope s_check_letters) s.heap.objs.size f cdv)).guards = some []) (hr : Room 1 (A.deeper (envOfC "check_letters" (defScope s_check_letters) s.heap.objs.size f cdv))) :
    XSs (cxOf (L2.CX P w) P w K mg base ["letters", "place", "sign"] "check_letters" (defScope s_check_letters) f cdv A outer s H E) (defBody s_check_letters) (W_check_letters) := by
  have nd := sc_check_letters.nd
  exact (xs_cons (xs_if (xt_not (xt_chain op_le o_le op_le o_le xe_int (xe_callB call_lenA opn_len rfl B.len bb_len (xa_cons (xe_var 0) xa_nil)) (xe_glob rfl g_MOST_LETTERS.mg g_MOST_LETTERS.rel g_MOST_LETTERS.dq))) (xs_one (xs_raise0 rfl T_BadLetters rfl)) xs_nil)
    (xs_one (xs_for (passes_of rfl) rfl (xi_enum2 rfl B.enumerate (xa_cons (xe_var 0) xa_nil)) (xg_tup rfl (xgs_cons (xg_name (i := 1) nd rfl (Or.inl rfl)) (xgs_cons (xg_name (i := 2) nd rfl (Or.inl rfl)) xgs_nil))) (xs_one (xs_if (xw_t (xw_or (xt_cmp opr_notIn op2_notIn (xe_var 2) (xe_glob rfl g_ALPHABET.mg g_ALPHABET.rel g_ALPHABET.dq)) (xw_or1 (xt_cmp opr_in op2_in (xe_var 2) (xe_slice (xe_var 0) xo_none (xo_some (xe_var 1))))))) (xs_one (xs_raise0 rfl T_BadLetters rfl)) xs_nil)))))
abbrev s_check_word : Stmt := topS 9
theorem sc_check_word : FnScope ["letters", "word", "most", "place", "sign"] ["letters", "word", "most"] (defScope s_check_word) := ⟨rfl, rfl, rfl, by decide +kernel, rfl, by decide +kernel, by decide +kernel⟩
def W_check_word : DS := (wSeq (wFor (wEnum2 (wCons (wVar 1) wNil)) (gTp 2 (gCs (gNm 3) (gCs (gNm 4) gNl))) (wIfS (wTst (wBin (wIn true) (wVar 4) (wVar 0))) (wRaise1 "BadWord" "place" (wCons (wVar 3) wNil)) wNext))
    (wIfS (wTst (wBin wGt (wCB (wN1 gLen) (wCons (wVar 1) wNil)) (wVar 2))) (wRaise1 "BadSize" "size" (wCons (wCB (wN1 gLen) (wCons (wVar 1) wNil)) wNil)) wNext))
theorem dv_check_word (B : Bi mg) (N_BadSize : ErN P w K mg base 1 "BadSize" 1 ["size"] (fun xs => [("size" : Str)].zip xs)) (N_BadWord : ErN P w K mg base 1 "BadWord" 1 ["place"] (fun xs => [("place" : Str)].zip xs)) {f : Addr} (cdv : Value) (A : Around) (outer : List Env) (s : Shared) (H : Hp) (E : XK) (hgd : (A.deeper (envOfC "check_word" (defScope s_check_word) s.heap.objs.size f cdv)).guards = some []) (hr : Room 2 (A.deeper (envOfC "check_word" (defScope s_check_word) s.heap.objs.size f cdv))) :
    XSs (cxOf (L2.CX P w) P w K mg base ["letters", "word", "most", "place", "sign"] "check_word" (defScope s_check_word) f cdv A outer s H E) (defBody s_check_word) (W_check_word) := by
  have nd := sc_check_word.nd
  exact (xs_cons (xs_for (passes_of rfl) rfl (xi_enum2 rfl B.enumerate (xa_cons (xe_var 1) xa_nil)) (xg_tup rfl (xgs_cons (xg_name (i := 3) nd rfl (Or.inl rfl)) (xgs_cons (xg_name (i := 4) nd rfl (Or.inl rfl)) xgs_nil))) (xs_one (xs_if (xt_cmp opr_notIn op2_notIn (xe_var 4) (xe_var 0)) (xs_one (xs_raise1 rfl N_BadWord hr (by omega) rfl (xa_cons (xe_var 3) xa_nil))) xs_nil)))
    (xs_one (xs_if (xt_cmp op_gt o_gt (xe_callB call_lenA opn_len rfl B.len bb_len (xa_cons (xe_var 1) xa_nil)) (xe_var 2)) (xs_one (xs_raise1 rfl N_BadSize hr (by omega) rfl (xa_cons (xe_callB call_lenA opn_len rfl B.len bb_len (xa_cons (xe_var 1) xa_nil)) xa_nil))) xs_nil)))
abbrev s_in_order : Stmt := topS 10
theorem sc_in_order : FnScope ["letters", "words", "once", "word"] ["letters", "words"] (defScope s_in_order) := ⟨rfl, rfl, rfl, by decide +kernel, rfl, by decide +kernel, by decide +kernel⟩
def W_in_order : DS := (wSeq (wSet 2 (wDc [3] (wIt (wVar 1)) (gNm 3) wYes (wVar 3) (wC (.bool true))))
    (wRet (wFz (wSortK 1 [0] (wTup (wCons (wCB (wN1 gLen) (wCons (wVar 0) wNil)) (wCons (wFz (wLc [2] (wIt (wVar 0)) (gNm 2) wYes (wIndex (wVar 1) (wVar 2)))) wNil))) (wCB dListK (wCons (wVar 2) wNil))))))
theorem dv_in_order (B : Bi mg) (hbm : BmOk mg base) (hln : ∀ l c, lamN l c = "in_order.<locals>.<lambda>") {f : Addr} (cdv : Value) {T : Addr} (hcd : CodeL K cdv T) (A : Around) (outer : List Env) (s : Shared) (H : Hp) (E : XK) (hgd : (A.deeper (envOfC "in_order" (defScope s_in_order) s.heap.objs.size f cdv)).guards = some []) (hr : Room 5 (A.deeper (envOfC "in_order" (defScope s_in_order) s.heap.objs.size f cdv))) :
    XSs (cxOf CX0 P w K mg base ["letters", "words", "once", "word"] "in_order" (defScope s_in_order) f cdv A outer s H E).nox (defBody s_in_order) (W_in_order) := by
  have nd := sc_in_order.nd
  exact (xs_cons (xs_setDc (i := 2) (own := [(("word" : Str), 3)]) rfl nd rfl rfl (sw_trueD rfl rfl rfl (by decide +kernel)) (xi_any (xe_var 1)) (blkOk_by (N := ["letters", "words", "once", "word"]) (sc := (defScope s_in_order)) (by decide +kernel)) (by decide) (fun _ _ _ _ _ => (xg_name (i := 3) nd rfl (Or.inl rfl))) (fun _ _ _ _ _ => xts_nil) (fun _ _ _ _ _ => (xe_var 3)) (fun _ _ _ _ _ => xe_bl))
    (xs_one (xs_ret (xl_fz (xl_sortK (k := 1) (N := ["word", "letters", "sign"]) (fr := ["letters"]) (nl := 1) (js := [0]) (wl := (wTup (wCons (wCB (wN1 gLen) (wCons (wVar 0) wNil)) (wCons (wFz (wLc [2] (wIt (wVar 0)) (gNm 2) wYes (wIndex (wVar 1) (wVar 2)))) wNil)))) (hr.mono (by omega)) rfl B.sorted (xe_listK rfl rfl B.list (xa_cons (xe_var 2) xa_nil)) hbm hcd (hln _ _) rfl (NdefX.nscope_by (by kernel_rfl)) rfl (by kernel_rfl) rfl (fun _ _ _ _ _ us hl => match us, hl with | [_], _ => rfl) (fun f c' A outer s H E hr => by have nd : (["word", "letters", "sign"] : List Str).Nodup := (by decide +kernel); exact (xe_tup (xa_cons (xe_callB call_lenA opn_len rfl B.len bb_len (xa_cons (xe_var 0) xa_nil)) (xa_cons (xl_fz (xl_lc (own := [(("sign" : Str), 2)]) rfl nd (xi_any (xe_var 0)) (blkOk_by (by kernel_rfl)) (by decide) (fun _ _ _ _ _ => (xg_name (i := 2) nd rfl (Or.inl rfl))) (fun _ _ _ _ _ => xts_nil) (fun _ _ _ _ _ => (xe_index (xe_var 1) (xe_var 2))))) xa_nil)))))))))
abbrev s__law_told : Stmt := topS 16
theorem sc__law_told : FnScope ["letters", "word", "most", "e"] ["letters", "word", "most"] (defScope s__law_told) := ⟨rfl, rfl, rfl, by decide +kernel, rfl, by decide +kernel, by decide +kernel⟩
def W__law_told : DS := (wSeq (wTryN ERL bE ((3, "BadWord", fun ea ec ed => (wRet (wTup (wCons (wC (.str ("word" : Str))) (wCons (wFldN ea ed "place" (wVar 3)) wNil))))) :: ((3, "BadSize", fun ea ec ed => (wRet (wTup (wCons (wC (.str ("size" : Str))) (wCons (wFldN ea ed "size" (wVar 3)) wNil))))) :: [])) (wIfS (wTst (wBin (wIsN false) (wVar 2) (wC .none))) (wExpW sp_check_word 200 (wCons (wVar 0) (wCons (wVar 1) wNil))) (wExpKw 2 sp_check_word (wCons (wVar 0) (wCons (wVar 1) wNil)) (wVar 2))))
    (wRet (wTup (wCons (wC (.str ("good" : Str))) (wCons (wC (.int 0)) wNil)))))
theorem dv__law_told (c_check_word : CaW P w K mg base 3 "check_word" ["letters", "word", "most"] 2 "most" 200 sp_check_word) (hEs : Ers K mg ERL bE FLE) {f : Addr} (cdv : Value) (A : Around) (outer : List Env) (s : Shared) (H : Hp) (E : XK) (hgd : (A.deeper (envOfC "_law_told" (defScope s__law_told) s.heap.objs.size f cdv)).guards = some []) (hr : Room 3 (A.deeper (envOfC "_law_told" (defScope s__law_told) s.heap.objs.size f cdv))) :
    XSs (cxOf CX0 P w K mg base ["letters", "word", "most", "e"] "_law_told" (defScope s__law_told) f cdv A outer s H E).nox (defBody s__law_told) (W__law_told) := by
  have nd := sc__law_told.nd
  exact (xs_cons (xs_try_n (cl := ((3, "BadWord", fun ea ec ed => (wRet (wTup (wCons (wC (.str ("word" : Str))) (wCons (wFldN ea ed "place" (wVar 3)) wNil))))) :: ((3, "BadSize", fun ea ec ed => (wRet (wTup (wCons (wC (.str ("size" : Str))) (wCons (wFldN ea ed "size" (wVar 3)) wNil))))) :: []))) rfl rfl nd hEs (fun pn xe pa => (xs_one (xs_if (xt_cmp op_isN op2_isN (xe_var 2) xe_non) (xs_one (c_expW c_check_word hgd hr (by omega) rfl (xa_cons (xe_var 0) (xa_cons (xe_var 1) xa_nil)))) (xs_one (c_expKw c_check_word hgd hr (by omega) rfl (xa_cons (xe_var 0) (xa_cons (xe_var 1) xa_nil)) (xe_var 2)))))) (.cons (i := 3) rfl rfl (by decide +kernel) rfl (by decide) (fun p0 ec D ed pn hcL hnd => (xs_one (xs_ret (xe_tup (xa_cons xe_str (xa_cons (xe_fldN (f := "place") hEs (by decide +kernel) hcL hnd (xe_var 3)) xa_nil)))))) (.cons (i := 3) rfl rfl (by decide +kernel) rfl (by decide) (fun p0 ec D ed pn hcL hnd => (xs_one (xs_ret (xe_tup (xa_cons xe_str (xa_cons (xe_fldN (f := "size") hEs (by decide +kernel) hcL hnd (xe_var 3)) xa_nil)))))) .nil)))
    (xs_one (xs_ret (xe_tup (xa_cons xe_str (xa_cons xe_int xa_nil))))))
abbrev s__law_are_letters : Stmt := topS 17
theorem sc__law_are_letters : FnScope ["text", "k"] ["text"] (defScope s__law_are_letters) := ⟨rfl, rfl, rfl, by decide +kernel, rfl, by decide +kernel, by decide +kernel⟩
def W__law_are_letters : DS := (wSeq (wIfS (wOr (wTst (wBin wLt (wCB (wN1 gLen) (wCons (wVar 0) wNil)) (wC (.int 1)))) (wTst (wBin wGt (wCB (wN1 gLen) (wCons (wVar 0) wNil)) (wC (.int 6))))) (wRet (wC (.bool false))) wNext)
    (wRet (wCB (wN1 gAll) (wCons (wFz (wLc [1] (wRng1 (wCons (wCB (wN1 gLen) (wCons (wVar 0) wNil)) wNil)) (gNm 1) wYes (wAndV (wBin (wIn false) (wBin wIx (wVar 0) (wVar 1)) (wC (.str ("abcdefghijklmnopqrstuvwxyz" : Str)))) (wBin (wIn true) (wBin wIx (wVar 0) (wVar 1)) (wSl (wVar 0) wNoP (wPart (wVar 1))))))) wNil))))
theorem dv__law_are_letters (B : Bi mg) {f : Addr} (cdv : Value) (A : Around) (outer : List Env) (s : Shared) (H : Hp) (E : XK) (hgd : (A.deeper (envOfC "_law_are_letters" (defScope s__law_are_letters) s.heap.objs.size f cdv)).guards = some []) (hr : Room 0 (A.deeper (envOfC "_law_are_letters" (defScope s__law_are_letters) s.heap.objs.size f cdv))) :
    XSs (cxOf CX0 P w K mg base ["text", "k"] "_law_are_letters" (defScope s__law_are_letters) f cdv A outer s H E).nox (defBody s__law_are_letters) (W__law_are_letters) := by
  have nd := sc__law_are_letters.nd
  exact (xs_cons (xs_if (xw_t (xw_or (xt_cmp op_lt o_lt (xe_callB call_lenA opn_len rfl B.len bb_len (xa_cons (xe_var 0) xa_nil)) xe_int) (xw_or1 (xt_cmp op_gt o_gt (xe_callB call_lenA opn_len rfl B.len bb_len (xa_cons (xe_var 0) xa_nil)) xe_int)))) (xs_one (xs_ret xe_bl)) xs_nil)
    (xs_one (xs_ret (xe_callB (cr_all rfl) opn_all rfl B.all bb_all (xa_cons (xl_fz (xl_lc (own := [(("k" : Str), 1)]) rfl nd (xi_range1 rfl B.range (xa_cons (xe_callB call_lenA opn_len rfl B.len bb_len (xa_cons (xe_var 0) xa_nil)) xa_nil)) (blkOk_by (N := ["text", "k"]) (sc := (defScope s__law_are_letters)) (by decide +kernel)) (by decide) (fun _ _ _ _ _ => (xg_name (i := 1) nd rfl (Or.inl rfl))) (fun _ _ _ _ _ => xts_nil) (fun _ _ _ _ _ => (xe_and (xe_cmp opr_in op2_in (xe_ixR ix_seq op2_ix (xe_var 0) (xe_var 1)) xe_str) (xe_one (xe_cmp opr_notIn op2_notIn (xe_ixR ix_seq op2_ix (xe_var 0) (xe_var 1)) (xe_slice (xe_var 0) xo_none (xo_some (xe_var 1))))))))) xa_nil)))))
abbrev s__law_checked : Stmt := topS 18
theorem sc__law_checked : FnScope ["text"] ["text"] (defScope s__law_checked) := ⟨rfl, rfl, rfl, by decide +kernel, rfl, by decide +kernel, by decide +kernel⟩
def W__law_checked : DS := (wSeq (wTryN2 ERL bE ((none, "BadLetters", fun ea ec ed => (wRet (wC (.bool false)))) :: []) (wExpX sp_check_letters (wCons (wVar 0) wNil)))
    (wRet (wC (.bool true))))
theorem dv__law_checked (c_check_letters : CaX P w K mg base 2 "check_letters" ["letters"] sp_check_letters) (hEs : Ers K mg ERL bE FLE) {f : Addr} (cdv : Value) (A : Around) (outer : List Env) (s : Shared) (H : Hp) (E : XK) (hgd : (A.deeper (envOfC "_law_checked" (defScope s__law_checked) s.heap.objs.size f cdv)).guards = some []) (hr : Room 2 (A.deeper (envOfC "_law_checked" (defScope s__law_checked) s.heap.objs.size f cdv))) :
    XSs (cxOf CX0 P w K mg base ["text"] "_law_checked" (defScope s__law_checked) f cdv A outer s H E).nox (defBody s__law_checked) (W__law_checked) := by
  have nd := sc__law_checked.nd
  exact (xs_cons (xs_try_n2 (cl := ((none, "BadLetters", fun ea ec ed => (wRet (wC (.bool false)))) :: [])) rfl rfl nd hEs (fun pn xe pa => (xs_one (c_expX c_check_letters hgd hr (by omega) rfl (xa_cons (xe_var 0) xa_nil)))) (.bare (by decide +kernel) rfl (by decide) (fun p0 ec D ed pn hcL hnd => (xs_one (xs_ret xe_bl))) .nil))
    (xs_one (xs_ret xe_bl)))
abbrev s__law_ahead : Stmt := topS 19
theorem sc__law_ahead : FnScope ["letters", "one", "other", "k"] ["letters", "one", "other"] (defScope s__law_ahead) := ⟨rfl, rfl, rfl, by decide +kernel, rfl, by decide +kernel, by decide +kernel⟩
def W__law_ahead : DS := (wSeq (wIfS (wTst (wBin (wEq true) (wCB (wN1 gLen) (wCons (wVar 1) wNil)) (wCB (wN1 gLen) (wCons (wVar 2) wNil)))) (wRet (wBin wLt (wCB (wN1 gLen) (wCons (wVar 1) wNil)) (wCB (wN1 gLen) (wCons (wVar 2) wNil)))) wNext)
    (wSeq (wFor (wRng1 (wCons (wCB (wN1 gLen) (wCons (wVar 1) wNil)) wNil)) (gNm 3) (wIfS (wTst (wBin (wEq true) (wBin wIx (wVar 1) (wVar 3)) (wBin wIx (wVar 2) (wVar 3)))) (wRet (wBin wLt (wIndex (wVar 0) (wBin wIx (wVar 1) (wVar 3))) (wIndex (wVar 0) (wBin wIx (wVar 2) (wVar 3))))) wNext))
    (wRet (wC (.bool false)))))
theorem dv__law_ahead (B : Bi mg) {f : Addr} (cdv : Value) (A : Around) (outer : List Env) (s : Shared) (H : Hp) (E : XK) (hgd : (A.deeper (envOfC "_law_ahead" (defScope s__law_ahead) s.heap.objs.size f cdv)).guards = some []) (hr : Room 0 (A.deeper (envOfC "_law_ahead" (defScope s__law_ahead) s.heap.objs.size f cdv))) :
    XSs (cxOf CX0 P w K mg base ["letters", "one", "other", "k"] "_law_ahead" (defScope s__law_ahead) f cdv A outer s H E).nox (defBody s__law_ahead) (W__law_ahead) := by
  have nd := sc__law_ahead.nd
  exact (xs_cons (xs_if (xt_cmp (opr_ne hr.units) op2_ne (xe_callB call_lenA opn_len rfl B.len bb_len (xa_cons (xe_var 1) xa_nil)) (xe_callB call_lenA opn_len rfl B.len bb_len (xa_cons (xe_var 2) xa_nil))) (xs_one (xs_ret (xe_cmp op_lt o_lt (xe_callB call_lenA opn_len rfl B.len bb_len (xa_cons (xe_var 1) xa_nil)) (xe_callB call_lenA opn_len rfl B.len bb_len (xa_cons (xe_var 2) xa_nil))))) xs_nil)
    (xs_cons (xs_for PassesOwn.never rfl (xi_range1 rfl B.range (xa_cons (xe_callB call_lenA opn_len rfl B.len bb_len (xa_cons (xe_var 1) xa_nil)) xa_nil)) (xg_name (i := 3) nd rfl (Or.inl rfl)) (xs_one (xs_if (xt_cmp (opr_ne hr.units) op2_ne (xe_ixR ix_seq op2_ix (xe_var 1) (xe_var 3)) (xe_ixR ix_seq op2_ix (xe_var 2) (xe_var 3))) (xs_one (xs_ret (xe_cmp op_lt o_lt (xe_index (xe_var 0) (xe_ixR ix_seq op2_ix (xe_var 1) (xe_var 3))) (xe_index (xe_var 0) (xe_ixR ix_seq op2_ix (xe_var 2) (xe_var 3)))))) xs_nil)))
    (xs_one (xs_ret xe_bl))))
abbrev s_law : Stmt := topS 20
theorem sc_law : FnScope ["script", "pool", "signs", "text", "letters", "length", "word", "due", "most", "at", "odd", "wrong", "words", "k", "handed", "told", "n", "one", "sign"] ["script"] (defScope s_law) := ⟨rfl, rfl, rfl, by decide +kernel, rfl, by decide +kernel, by decide +kernel⟩
def W_law : DS := (wSeq (wSet 2 (wC (.str ("abcdefghijklmnopqrstuvwxyzAZ0 -_{" : Str))))
    (wSeq (wSet 3 (wJoin (wC (.str ("" : Str))) (wFz (wLc [13] (wRng1 (wCons (wCallP 1 sp_pick (wCons (wC (.int 9)) wNil)) wNil)) (gNm 13) wYes (wBin wIx (wVar 2) (wBin wMod (wCB (wN1 gInt) (wCons (wBin wAdd (wBin wMul (wCallP 1 sp_pick (wCons (wC (.int 60)) wNil)) (wC (.int 7))) (wVar 13)) wNil)) (wBin wIx (wFz (wLst (wCons (wC (.int 26)) (wCons (wC (.int 33)) wNil)))) (wCB (wN1 gInt) (wCons (wBin (wEq false) (wCallP 1 sp_pick (wCons (wC (.int 6)) wNil)) (wC (.int 0))) wNil)))))))))
    (wSeq (wIfS (wTst (wBin (wEq true) (wCall sp_law_checked (wCons (wVar 3) wNil)) (wCall sp_law_are_letters (wCons (wVar 3) wNil)))) (wRet (wC (.bool false))) wNext)
    (wSeq (wSet 4 (wCallP 1 sp_letters2 (wCons (wC (.int 6)) wNil)))
    (wSeq (wIfS (wOr (wNot (wTru (wCall sp_law_checked (wCons (wVar 4) wNil)))) (wTru (wCall sp_law_checked (wCons (wBin wAdd (wVar 4) (wBin wIx (wVar 4) (wC (.int 0)))) wNil)))) (wRet (wC (.bool false))) wNext)
    (wSeq (wSet 5 (wBin wIx (wFz (wLst (wCons (wCallP 1 sp_pick (wCons (wC (.int 12)) wNil)) (wCons (wBin wAdd (wC (.int 190)) (wCallP 1 sp_pick (wCons (wC (.int 21)) wNil))) wNil)))) (wCB (wN1 gInt) (wCons (wBin (wEq false) (wCallP 1 sp_pick (wCons (wC (.int 3)) wNil)) (wC (.int 0))) wNil))))
    (wSeq (wSet 6 (wJoin (wC (.str ("" : Str))) (wFz (wLc [13] (wRng1 (wCons (wVar 5) wNil)) (gNm 13) wYes (wBin wIx (wVar 4) (wCallP 1 sp_pick (wCons (wCB (wN1 gLen) (wCons (wVar 4) wNil)) wNil)))))))
    (wSeq (wSet 7 (wBin wIx (wFz (wLst (wCons (wTup (wCons (wC (.str ("good" : Str))) (wCons (wC (.int 0)) wNil))) (wCons (wTup (wCons (wC (.str ("size" : Str))) (wCons (wVar 5) wNil))) wNil)))) (wCB (wN1 gInt) (wCons (wBin wGt (wVar 5) (wC (.int 200))) wNil))))
    (wSeq (wSet 8 (wCallP 1 sp_pick (wCons (wC (.int 15)) wNil)))
    (wSeq (wIfS (wOr (wTst (wBin (wEq true) (wCall sp_law_told (wCons (wVar 4) (wCons (wVar 6) (wCons (wC .none) wNil)))) (wVar 7))) (wTst (wBin (wEq true) (wCall sp_law_told (wCons (wVar 4) (wCons (wVar 6) (wCons (wVar 8) wNil)))) (wBin wIx (wFz (wLst (wCons (wTup (wCons (wC (.str ("good" : Str))) (wCons (wC (.int 0)) wNil))) (wCons (wTup (wCons (wC (.str ("size" : Str))) (wCons (wVar 5) wNil))) wNil)))) (wCB (wN1 gInt) (wCons (wBin wGt (wVar 5) (wVar 8)) wNil)))))) (wRet (wC (.bool false))) wNext)
    (wSeq (wIfS (wTst (wBin wGt (wVar 5) (wC (.int 0)))) (wSeq (wSet 9 (wBin wMod (wCB (wN1 gInt) (wCons (wBin wAdd (wBin wMul (wCallP 1 sp_pick (wCons (wC (.int 60)) wNil)) (wC (.int 60))) (wCallP 1 sp_pick (wCons (wC (.int 60)) wNil))) wNil)) (wVar 5)))
    (wSeq (wSet 10 (wBin wIx (wFz (wLc [18] (wIt (wC (.str ("abcdefgA0 -" : Str)))) (gNm 18) (wTst (wBin (wIn true) (wVar 18) (wVar 4))) (wVar 18))) (wCallP 1 sp_pick (wCons (wC (.int 5)) wNil))))
    (wSeq (wSet 11 (wBin wAdd (wBin wAdd (wSl (wVar 6) wNoP (wPart (wVar 9))) (wVar 10)) (wSl (wVar 6) (wPart (wBin wAdd (wVar 9) (wC (.int 1)))) wNoP)))
    (wIfS (wOr (wTst (wBin (wEq true) (wCall sp_law_told (wCons (wVar 4) (wCons (wVar 11) (wCons (wC .none) wNil)))) (wTup (wCons (wC (.str ("word" : Str))) (wCons (wVar 9) wNil))))) (wTst (wBin (wEq true) (wCall sp_law_told (wCons (wVar 4) (wCons (wBin wAdd (wVar 11) (wVar 10)) (wCons (wVar 8) wNil)))) (wTup (wCons (wC (.str ("word" : Str))) (wCons (wVar 9) wNil)))))) (wRet (wC (.bool false))) wNext)))) wNext)
    (wSeq (wSetO 12 (wLst wNil))
    (wSeq (wFor (wRng1 (wCons (wCallP 1 sp_pick (wCons (wC (.int 12)) wNil)) wNil)) (gNm 13) (wApp 12 (wJoin (wC (.str ("" : Str))) (wFz (wLc [16] (wRng1 (wCons (wCallP 1 sp_pick (wCons (wC (.int 4)) wNil)) wNil)) (gNm 16) wYes (wBin wIx (wVar 4) (wCallP 1 sp_pick (wCons (wCB (wN1 gLen) (wCons (wVar 4) wNil)) wNil))))))))
    (wSeq (wSet 14 (wCB (wN1 gList) (wCons (wVar 12) wNil)))
    (wSeq (wSet 15 (wCall sp_in_order (wCons (wVar 4) (wCons (wVar 14) wNil))))
    (wSeq (wIfS (wOr (wNot (wTru (wIsI "list" (wVar 15)))) (wOr (wTst (wBin (wEq true) (wVar 14) (wVar 12))) (wNot (wTru (wCB (wN1 gAll) (wCons (wFz (wLc [17] (wIt (wVar 15)) (gNm 17) wYes (wIsI "str" (wVar 17)))) wNil)))))) (wRet (wC (.bool false))) wNext)
    (wSeq (wIfS (wOr (wNot (wTru (wCB (wN1 gAll) (wCons (wFz (wLc [17] (wIt (wVar 12)) (gNm 17) wYes (wBin (wIn false) (wVar 17) (wVar 15)))) wNil)))) (wNot (wTru (wCB (wN1 gAll) (wCons (wFz (wLc [17] (wIt (wVar 15)) (gNm 17) wYes (wBin (wIn false) (wVar 17) (wVar 12)))) wNil))))) (wRet (wC (.bool false))) wNext)
    (wRet (wCB (wN1 gAll) (wCons (wFz (wLc [13] (wRng1 (wCons (wBin wSub (wCB (wN1 gLen) (wCons (wVar 15) wNil)) (wC (.int 1))) wNil)) (gNm 13) wYes (wCall sp_law_ahead (wCons (wVar 4) (wCons (wBin wIx (wVar 15) (wVar 13)) (wCons (wBin wIx (wVar 15) (wBin wAdd (wVar 13) (wC (.int 1)))) wNil)))))) wNil))))))))))))))))))))
theorem dv_law (B : Bi mg) (c__law_ahead : Ca P w K mg base 1 "_law_ahead" ["letters", "one", "other"] (spD K sp_law_ahead)) (c_in_order : Ca P w K mg base 6 "in_order" ["letters", "words"] (spD K sp_in_order)) (c__law_pick : Ca P w K mg base 1 "_law_pick" ["pool", "many"] (spP K sp_pick)) (c__law_told : Ca P w K mg base 4 "_law_told" ["letters", "word", "most"] (spD K sp_law_told)) (c__law_checked : Ca P w K mg base 3 "_law_checked" ["text"] (spD K sp_law_checked)) (c__law_letters : Ca P w K mg base 2 "_law_letters" ["pool", "most"] (spP K sp_letters2)) (c__law_are_letters : Ca P w K mg base 1 "_law_are_letters" ["text"] (spD K sp_law_are_letters)) {f : Addr} (cdv : Value) (A : Around) (outer : List Env) (s : Shared) (H : Hp) (E : XK) (hgd : (A.deeper (envOfC "law" (defScope s_law) s.heap.objs.size f cdv)).guards = some []) (hr : Room 6 (A.deeper (envOfC "law" (defScope s_law) s.heap.objs.size f cdv))) :
    XSs (cxOf CX0 P w K mg base ["script", "pool", "signs", "text", "letters", "length", "word", "due", "most", "at", "odd", "wrong", "words", "k", "handed", "told", "n", "one", "sign"] "law" (defScope s_law) f cdv A outer s H E).nox ((defBody s_law).drop 1) (W_law) := by
  have nd := sc_law.nd
  exact (xs_cons (xs_set (i := 2) nd rfl (Or.inr rfl) xe_str)
    (xs_cons (xs_set (i := 3) nd rfl (Or.inl rfl) (xe_join xe_str (xl_fz (xl_lc (own := [(("k" : Str), 13)]) rfl nd (xi_range1 rfl B.range (xa_cons (c_callP (i := 1) c__law_pick hgd hr (by omega) rfl (pv 1) (xa_cons xe_int xa_nil)) xa_nil)) (blkOk_by (N := ["script", "pool", "signs", "text", "letters", "length", "word", "due", "most", "at", "odd", "wrong", "words", "k", "handed", "told", "n", "one", "sign"]) (sc := (defScope s_law)) (by decide +kernel)) (by decide) (fun _ _ _ _ _ => (xg_name (i := 13) nd rfl (Or.inl rfl))) (fun _ _ _ _ _ => xts_nil) (fun _ _ _ _ _ => (xe_ixR ix_seq op2_ix (xe_var 2) (xe_op op_mod o_mod (xe_callTy call_int1 opn_int rfl B.int bb_int (xa_cons (xe_op opr_plus op2_plus (xe_op op_mul o_mul (c_callP (i := 1) c__law_pick hgd hr (by omega) rfl (pv 1) (xa_cons xe_int xa_nil)) xe_int) (xe_var 13)) xa_nil)) (xe_ixR ix_seq op2_ix (xl_fz (xl_lst (xa_cons xe_int (xa_cons xe_int xa_nil)))) (xe_callTy call_int1 opn_int rfl B.int bb_int (xa_cons (xe_cmp (opr_eq hr.units) op2_eq (c_callP (i := 1) c__law_pick hgd hr (by omega) rfl (pv 1) (xa_cons xe_int xa_nil)) xe_int) xa_nil))))))))))
    (xs_cons (xs_if (xt_cmp (opr_ne hr.units) op2_ne (c_call c__law_checked hgd hr (by omega) rfl (xa_cons (xe_var 3) xa_nil)) (c_call c__law_are_letters hgd hr (by omega) rfl (xa_cons (xe_var 3) xa_nil))) (xs_one (xs_ret xe_bl)) xs_nil)
    (xs_cons (xs_set (i := 4) nd rfl (Or.inr rfl) (c_callP (i := 1) c__law_letters hgd hr (by omega) rfl (pv 1) (xa_cons xe_int xa_nil)))
    (xs_cons (xs_if (xw_t (xw_or (xt_not (xt_tru (c_call c__law_checked hgd hr (by omega) rfl (xa_cons (xe_var 4) xa_nil)))) (xw_or1 (xt_tru (c_call c__law_checked hgd hr (by omega) rfl (xa_cons (xe_op opr_plus op2_plus (xe_var 4) (xe_ixR ix_seq op2_ix (xe_var 4) xe_int)) xa_nil)))))) (xs_one (xs_ret xe_bl)) xs_nil)
    (xs_cons (xs_set (i := 5) nd rfl (Or.inl rfl) (xe_ixR ix_seq op2_ix (xl_fz (xl_lst (xa_cons (c_callP (i := 1) c__law_pick hgd hr (by omega) rfl (pv 1) (xa_cons xe_int xa_nil)) (xa_cons (xe_op opr_plus op2_plus xe_int (c_callP (i := 1) c__law_pick hgd hr (by omega) rfl (pv 1) (xa_cons xe_int xa_nil))) xa_nil)))) (xe_callTy call_int1 opn_int rfl B.int bb_int (xa_cons (xe_cmp (opr_eq hr.units) op2_eq (c_callP (i := 1) c__law_pick hgd hr (by omega) rfl (pv 1) (xa_cons xe_int xa_nil)) xe_int) xa_nil))))
    (xs_cons (xs_set (i := 6) nd rfl (Or.inl rfl) (xe_join xe_str (xl_fz (xl_lc (own := [(("k" : Str), 13)]) rfl nd (xi_range1 rfl B.range (xa_cons (xe_var 5) xa_nil)) (blkOk_by (N := ["script", "pool", "signs", "text", "letters", "length", "word", "due", "most", "at", "odd", "wrong", "words", "k", "handed", "told", "n", "one", "sign"]) (sc := (defScope s_law)) (by decide +kernel)) (by decide) (fun _ _ _ _ _ => (xg_name (i := 13) nd rfl (Or.inl rfl))) (fun _ _ _ _ _ => xts_nil) (fun _ _ _ _ _ => (xe_ixR ix_seq op2_ix (xe_var 4) (c_callP (i := 1) c__law_pick hgd hr (by omega) rfl (pv 1) (xa_cons (xe_callB call_lenA opn_len rfl B.len bb_len (xa_cons (xe_var 4) xa_nil)) xa_nil))))))))
    (xs_cons (xs_set (i := 7) nd rfl (Or.inl rfl) (xe_ixR ix_seq op2_ix (xl_fz (xl_lst (xa_cons (xe_tup (xa_cons xe_str (xa_cons xe_int xa_nil))) (xa_cons (xe_tup (xa_cons xe_str (xa_cons (xe_var 5) xa_nil))) xa_nil)))) (xe_callTy call_int1 opn_int rfl B.int bb_int (xa_cons (xe_cmp op_gt o_gt (xe_var 5) xe_int) xa_nil))))
    (xs_cons (xs_set (i := 8) nd rfl (Or.inl rfl) (c_callP (i := 1) c__law_pick hgd hr (by omega) rfl (pv 1) (xa_cons xe_int xa_nil)))
    (xs_cons (xs_if (xw_t (xw_or (xt_cmp (opr_ne hr.units) op2_ne (c_call c__law_told hgd hr (by omega) rfl (xa_cons (xe_var 4) (xa_cons (xe_var 6) (xa_cons xe_non xa_nil)))) (xe_var 7)) (xw_or1 (xt_cmp (opr_ne hr.units) op2_ne (c_call c__law_told hgd hr (by omega) rfl (xa_cons (xe_var 4) (xa_cons (xe_var 6) (xa_cons (xe_var 8) xa_nil)))) (xe_ixR ix_seq op2_ix (xl_fz (xl_lst (xa_cons (xe_tup (xa_cons xe_str (xa_cons xe_int xa_nil))) (xa_cons (xe_tup (xa_cons xe_str (xa_cons (xe_var 5) xa_nil))) xa_nil)))) (xe_callTy call_int1 opn_int rfl B.int bb_int (xa_cons (xe_cmp op_gt o_gt (xe_var 5) (xe_var 8)) xa_nil))))))) (xs_one (xs_ret xe_bl)) xs_nil)
    (xs_cons (xs_if (xt_cmp op_gt o_gt (xe_var 5) xe_int) (xs_cons (xs_set (i := 9) nd rfl (Or.inl rfl) (xe_op op_mod o_mod (xe_callTy call_int1 opn_int rfl B.int bb_int (xa_cons (xe_op opr_plus op2_plus (xe_op op_mul o_mul (c_callP (i := 1) c__law_pick hgd hr (by omega) rfl (pv 1) (xa_cons xe_int xa_nil)) xe_int) (c_callP (i := 1) c__law_pick hgd hr (by omega) rfl (pv 1) (xa_cons xe_int xa_nil))) xa_nil)) (xe_var 5)))
    (xs_cons (xs_set (i := 10) nd rfl (Or.inl rfl) (xe_ixR ix_seq op2_ix (xl_fz (xl_lc (own := [(("sign" : Str), 18)]) rfl nd (xi_any xe_str) (blkOk_by (N := ["script", "pool", "signs", "text", "letters", "length", "word", "due", "most", "at", "odd", "wrong", "words", "k", "handed", "told", "n", "one", "sign"]) (sc := (defScope s_law)) (by decide +kernel)) (by decide) (fun _ _ _ _ _ => (xg_name (i := 18) nd rfl (Or.inl rfl))) (fun _ _ _ _ _ => (xts_one (xt_cmp opr_notIn op2_notIn (xe_var 18) (xe_var 4)))) (fun _ _ _ _ _ => (xe_var 18)))) (c_callP (i := 1) c__law_pick hgd hr (by omega) rfl (pv 1) (xa_cons xe_int xa_nil))))
    (xs_cons (xs_set (i := 11) nd rfl (Or.inl rfl) (xe_op opr_plus op2_plus (xe_op opr_plus op2_plus (xe_slice (xe_var 6) xo_none (xo_some (xe_var 9))) (xe_var 10)) (xe_slice (xe_var 6) (xo_some (xe_op opr_plus op2_plus (xe_var 9) xe_int)) xo_none)))
    (xs_one (xs_if (xw_t (xw_or (xt_cmp (opr_ne hr.units) op2_ne (c_call c__law_told hgd hr (by omega) rfl (xa_cons (xe_var 4) (xa_cons (xe_var 11) (xa_cons xe_non xa_nil)))) (xe_tup (xa_cons xe_str (xa_cons (xe_var 9) xa_nil)))) (xw_or1 (xt_cmp (opr_ne hr.units) op2_ne (c_call c__law_told hgd hr (by omega) rfl (xa_cons (xe_var 4) (xa_cons (xe_op opr_plus op2_plus (xe_var 11) (xe_var 10)) (xa_cons (xe_var 8) xa_nil)))) (xe_tup (xa_cons xe_str (xa_cons (xe_var 9) xa_nil))))))) (xs_one (xs_ret xe_bl)) xs_nil))))) xs_nil)
    (xs_cons (xs_setO (i := 12) nd rfl (Or.inr rfl) (xl_lst xa_nil))
    (xs_cons (xs_for PassesOwn.never rfl (xi_range1 rfl B.range (xa_cons (c_callP (i := 1) c__law_pick hgd hr (by omega) rfl (pv 1) (xa_cons xe_int xa_nil)) xa_nil)) (xg_name (i := 13) nd rfl (Or.inl rfl)) (xs_one (xs_append (i := 12) (pv 12) (xe_join xe_str (xl_fz (xl_lc (own := [(("n" : Str), 16)]) rfl nd (xi_range1 rfl B.range (xa_cons (c_callP (i := 1) c__law_pick hgd hr (by omega) rfl (pv 1) (xa_cons xe_int xa_nil)) xa_nil)) (blkOk_by (N := ["script", "pool", "signs", "text", "letters", "length", "word", "due", "most", "at", "odd", "wrong", "words", "k", "handed", "told", "n", "one", "sign"]) (sc := (defScope s_law)) (by decide +kernel)) (by decide) (fun _ _ _ _ _ => (xg_name (i := 16) nd rfl (Or.inl rfl))) (fun _ _ _ _ _ => xts_nil) (fun _ _ _ _ _ => (xe_ixR ix_seq op2_ix (xe_var 4) (c_callP (i := 1) c__law_pick hgd hr (by omega) rfl (pv 1) (xa_cons (xe_callB call_lenA opn_len rfl B.len bb_len (xa_cons (xe_var 4) xa_nil)) xa_nil))))))))))
    (xs_cons (xs_set (i := 14) nd rfl (Or.inl rfl) (xe_callTy (cr_listA hr) opn_list rfl B.list bb_list (xa_cons (xe_var 12) xa_nil)))
    (xs_cons (xs_set (i := 15) nd rfl (Or.inr rfl) (c_call c_in_order hgd hr (by omega) rfl (xa_cons (xe_var 4) (xa_cons (xe_var 14) xa_nil))))
    (xs_cons (xs_if (xw_t (xw_or (xt_not (xt_tru (xe_isI (n := "list") rfl B.isinstance rfl B.list bb_list (xe_var 15)))) (xw_or (xt_cmp (opr_ne hr.units) op2_ne (xe_var 14) (xe_var 12)) (xw_or1 (xt_not (xt_tru (xe_callB (cr_all rfl) opn_all rfl B.all bb_all (xa_cons (xl_fz (xl_lc (own := [(("one" : Str), 17)]) rfl nd (xi_any (xe_var 15)) (blkOk_by (N := ["script", "pool", "signs", "text", "letters", "length", "word", "due", "most", "at", "odd", "wrong", "words", "k", "handed", "told", "n", "one", "sign"]) (sc := (defScope s_law)) (by decide +kernel)) (by decide) (fun _ _ _ _ _ => (xg_name (i := 17) nd rfl (Or.inl rfl))) (fun _ _ _ _ _ => xts_nil) (fun _ _ _ _ _ => (xe_isI (n := "str") rfl B.isinstance rfl B.str bb_str (xe_var 17))))) xa_nil)))))))) (xs_one (xs_ret xe_bl)) xs_nil)
    (xs_cons (xs_if (xw_t (xw_or (xt_not (xt_tru (xe_callB (cr_all rfl) opn_all rfl B.all bb_all (xa_cons (xl_fz (xl_lc (own := [(("one" : Str), 17)]) rfl nd (xi_any (xe_var 12)) (blkOk_by (N := ["script", "pool", "signs", "text", "letters", "length", "word", "due", "most", "at", "odd", "wrong", "words", "k", "handed", "told", "n", "one", "sign"]) (sc := (defScope s_law)) (by decide +kernel)) (by decide) (fun _ _ _ _ _ => (xg_name (i := 17) nd rfl (Or.inl rfl))) (fun _ _ _ _ _ => xts_nil) (fun _ _ _ _ _ => (xe_cmp opr_in op2_in (xe_var 17) (xe_var 15))))) xa_nil)))) (xw_or1 (xt_not (xt_tru (xe_callB (cr_all rfl) opn_all rfl B.all bb_all (xa_cons (xl_fz (xl_lc (own := [(("one" : Str), 17)]) rfl nd (xi_any (xe_var 15)) (blkOk_by (N := ["script", "pool", "signs", "text", "letters", "length", "word", "due", "most", "at", "odd", "wrong", "words", "k", "handed", "told", "n", "one", "sign"]) (sc := (defScope s_law)) (by decide +kernel)) (by decide) (fun _ _ _ _ _ => (xg_name (i := 17) nd rfl (Or.inl rfl))) (fun _ _ _ _ _ => xts_nil) (fun _ _ _ _ _ => (xe_cmp opr_in op2_in (xe_var 17) (xe_var 12))))) xa_nil))))))) (xs_one (xs_ret xe_bl)) xs_nil)
    (xs_one (xs_ret (xe_callB (cr_all rfl) opn_all rfl B.all bb_all (xa_cons (xl_fz (xl_lc (own := [(("k" : Str), 13)]) rfl nd (xi_range1 rfl B.range (xa_cons (xe_op op_sub o_sub (xe_callB call_lenA opn_len rfl B.len bb_len (xa_cons (xe_var 15) xa_nil)) xe_int) xa_nil)) (blkOk_by (N := ["script", "pool", "signs", "text", "letters", "length", "word", "due", "most", "at", "odd", "wrong", "words", "k", "handed", "told", "n", "one", "sign"]) (sc := (defScope s_law)) (by decide +kernel)) (by decide) (fun _ _ _ _ _ => (xg_name (i := 13) nd rfl (Or.inl rfl))) (fun _ _ _ _ _ => xts_nil) (fun _ _ _ _ _ => (c_call c__law_ahead hgd hr (by omega) rfl (xa_cons (xe_var 4) (xa_cons (xe_ixR ix_seq op2_ix (xe_var 15) (xe_var 13)) (xa_cons (xe_ixR ix_seq op2_ix (xe_var 15) (xe_op opr_plus op2_plus (xe_var 13) xe_int)) xa_nil))))))) xa_nil)))))))))))))))))))))
end
end L01
namespace L01
open PySem PySem.Spec PyProof.Rows L2 DL
theorem w_pick (ds : List PyData) (q : List Int) (Φ : PyData → List Int → Prop) (h : sp_pick ds q Φ) : W__law_pick (endP Φ) ⟨startE ["pool", "many"] (.pl :: ds.map .d), q⟩ := by
  obtain ⟨m, rfl, hm, hq, k⟩ := h
  obtain ⟨a, t, rfl, ha, h1, h2, h3⟩ := hq.head
  have e1 : (0 : Int) ≤ a % (t.length : Int) := Int.emod_nonneg _ (by omega)
  have e2 : a % (t.length : Int) < t.length := Int.emod_lt_of_pos _ (by omega)
  simp only [W__law_pick, wSeq, wPlSet, wC, wBin, wAdd, wMod, wII, wCB, wN1, gInt, wCons, wNil, wPlIx, poolAt, wSub, wI2, wPlLen, wRet, wVar, endP, startE, S.put, optP, atI_cons0, List.length_cons, List.cons_append, List.getElem?_cons_zero, List.map_cons, List.map_nil]
  simp only [ixN_zero, List.set_cons_zero, atI_cons0]
  have e3 : ((t.length + 1 : Nat) : Int) - 1 = t.length := by omega
  rw [e3]
  refine ⟨by omega, ?_⟩
  rw [atI_lt (xs := (1 + a % (t.length : Int)) :: t) (k := 1 + a % (t.length : Int)) (by omega) (by simp; omega)]
  have e4 : (1 + a % (t.length : Int)).toNat = (a % (t.length : Int)).toNat + 1 := by omega
  have hm' := h3 _ (List.getElem_mem (l := t) (n := (a % (t.length : Int)).toNat) (by omega))
  simp only [e4, List.getElem_cons_succ]
  refine ⟨hm, k _ _ (PoolOk.mk' (by omega) h1 h2 h3) (Int.emod_nonneg _ (by omega)) (Int.emod_lt_of_pos _ hm) ?_⟩
  exact Int.lt_of_le_of_lt (emod_le' hm'.1 hm) hm'.2
theorem w_stream (ns : List Int) (Φ : List PyData → Prop) (h : spStream ns Φ) : W__law_stream (endL Φ) ⟨startE ["script"] [.sc ns], []⟩ := by
  obtain ⟨h1, k⟩ := h
  simp [W__law_stream]
  refine ⟨sz_le (by omega), h1, fun q a b c => ⟨sz_le (by rw [List.length_map]; omega), ?_⟩⟩
  exact k (0 :: q) (PoolOk.mk' (by omega) a (by omega) c)
theorem w_pool (ns : List Int) (Φ : List PyData → Prop) (h : sp_pool ns Φ) : W__law_pool (endL Φ) ⟨startE ["script", "pool", "state", "k", "cell", "step", "one", "two"] [.sc ns], []⟩ := by
  obtain ⟨h1, k⟩ := h
  simp [W__law_pool]
  have hn : (if 63 < (ns.length : Int) then (63 : Int) else (ns.length : Int)) = (ns.length : Int) := by
    rw [if_neg (by omega)]
  rw [hn, Int.toNat_natCast]
  refine ⟨⟨by omega, by omega⟩, ?_⟩
  refine loop_rng (fun i s => ∃ (q : List Int) (st : Int) (a3 a4 a5 a6 a7 : Sl), s = ⟨[.sc ns, .o (q.map .int), .d (.int st), a3, a4, a5, a6, a7], []⟩ ∧ q.length ≤ 60 * i ∧ ∀ n ∈ q, 0 ≤ n ∧ n < 60) ⟨[], 17, _, _, _, _, _, rfl, by simp, by simp⟩ ?_ ?_
  · rintro i s hi ⟨q, st, a3, a4, a5, a6, a7, rfl, hq, ho⟩ Ψ k1 k2 k3 k4 k5
    clear k2 k3 k4 k5
    simp
    generalize ns[i]?.getD 0 = c
    have m59 : ∀ z : Int, 0 ≤ z % 60 ∧ z % 60 < 60 := fun z => ⟨Int.emod_nonneg _ (by decide), Int.emod_lt_of_pos _ (by decide)⟩
    refine ⟨hi, .inr ⟨by decide, by decide⟩, .inr ⟨by decide, by decide⟩, ⟨by decide, by decide, by decide⟩, ?_⟩
    split
    · refine ⟨⟨by decide, by decide⟩, ?_⟩
      generalize (st * 69621 + c * 48271 + (i : Int)) % 2147483647 = st'
      refine loop_rng (fun j s => ∃ (q' : List Int) (c : Int) (a5 : Sl), s = ⟨[.sc ns, .o (q'.map .int), .d (.int st'), .d (.int i), .d (.int c), a5, a6, a7], []⟩ ∧ q'.length ≤ q.length + j ∧ ∀ n ∈ q', 0 ≤ n ∧ n < 60) ⟨q, c, _, rfl, by omega, ho⟩ ?_ ?_
      · rintro j s hj ⟨q', c, a5, rfl, hq', ho'⟩ Ψ' k1' k2 k3 k4 k5
        clear k2 k3 k5
        simp
        refine ite2 (fun _ => ?_) (fun _ => ⟨sz_lt (by omega), ⟨by decide, by decide⟩, k1' _ ⟨q' ++ [c % 60], c / 60, .d (.int (j : Int)), by simp, by simp; omega, fun n hn => ?_⟩⟩)
        · rw [k4]
          exact k1 _ ⟨q', st', _, _, _, _, _, rfl, by omega, ho'⟩
        · rcases List.mem_append.mp hn with h | h
          · exact ho' n h
          · rw [List.mem_singleton.mp h]
            exact m59 c
      · rintro s ⟨q', c, a5, rfl, hq', ho'⟩
        exact k1 _ ⟨q', st', _, _, _, _, _, rfl, by omega, ho'⟩
    · refine ⟨.inr ⟨by decide, by decide⟩, .inr ⟨by decide, by decide⟩, .inr ⟨by decide, by decide⟩, .inr ⟨by decide, by decide⟩, ⟨by decide, by decide⟩, sz_le (by omega), sz_le (by omega), ?_⟩
      refine k1 _ ⟨q ++ [(c * 48271 + (i : Int) * 69621 + 7) % 2147483647 / 11 % 60, ((c * 48271 + (i : Int) * 69621 + 7) % 2147483647 * 16807 + c * 31 + (i : Int)) % 1000003 % 60], _, _, _, _, _, _, by simp; exact ⟨rfl, rfl, rfl, rfl, rfl, rfl⟩, by simp; omega, fun n hn => ?_⟩
      rcases List.mem_append.mp hn with h | h
      · exact ho n h
      · rcases List.mem_cons.mp h with h | h
        · rw [h]
          exact m59 _
        · rw [List.mem_singleton.mp h]
          exact m59 _
  · rintro s ⟨q, st, a3, a4, a5, a6, a7, rfl, hq, ho⟩
    simp
    have m59 : ∀ z : Int, 0 ≤ z % 60 ∧ z % 60 < 60 := fun z => ⟨Int.emod_nonneg _ (by decide), Int.emod_lt_of_pos _ (by decide)⟩
    refine ⟨⟨by decide, by decide⟩, ?_⟩
    refine loop_rng (fun j s => ∃ (q' : List Int) (st : Int) (a5 : Sl), s = ⟨[.sc ns, .o (q'.map .int), .d (.int st), a3, a4, a5, a6, a7], []⟩ ∧ q'.length = q.length + j ∧ ∀ n ∈ q', 0 ≤ n ∧ n < 60) ⟨q, st, _, rfl, by omega, ho⟩ ?_ ?_
    · rintro j s hj ⟨q', st, a5, rfl, hq', ho'⟩ Ψ' k1' k2 k3 k4 k5
      clear k2 k3 k4 k5
      simp
      refine ⟨.inr ⟨by decide, by decide⟩, ⟨by decide, by decide⟩, sz_lt (by omega), k1' _ ⟨q' ++ [(st * 48271 + 11) % 2147483647 / 97 % 60], _, _, by simp; exact ⟨rfl, rfl⟩, by simp; omega, fun n hn => ?_⟩⟩
      rcases List.mem_append.mp hn with h | h
      · exact ho' n h
      · rw [List.mem_singleton.mp h]
        exact m59 _
    · rintro s ⟨q', st, a5, rfl, hq', ho'⟩
      simp
      exact k q' (by omega) (by omega) ho'
end L01
namespace L01
open PySem PySem.Spec PyProof.Rows L2 DL
theorem letters_nodup {i a n : Nat} (hi : i < 6) (hn : n ≤ 6) : ((List.range n).map fun j => 97 + (a + (2 * i + 1) * j) % 26).Nodup := by
  refine nodup_map List.nodup_range ?_
  intro x hx y hy e
  have hx := List.mem_range.mp hx
  have hy := List.mem_range.mp hy
  have hc : i = 0 ∨ i = 1 ∨ i = 2 ∨ i = 3 ∨ i = 4 ∨ i = 5 := by omega
  rcases hc with rfl | rfl | rfl | rfl | rfl | rfl <;> omega
theorem w_letters (ds : List PyData) (q : List Int) (Φ : PyData → List Int → Prop) (h : sp_letters2 ds q Φ) : W__law_letters (endP Φ) ⟨startE ["pool", "most", "many", "signs", "at", "step", "k"] (.pl :: ds.map .d), q⟩ := by
  obtain ⟨m, rfl, h1, h2, hq, k⟩ := h
  simp [W__law_letters]
  refine pick_go (by omega) hq fun n q1 hq1 hn1 hn2 => ?_
  simp
  refine pick_go (by omega) hq1 fun a q2 hq2 ha1 ha2 => ?_
  refine ⟨sz_le (by omega), pick_go (by omega) hq2 fun i q3 hq3 hi1 hi2 => ?_⟩
  rw [show ((1 : Int) + (n : Int)) = ((n + 1 : Nat) : Int) by omega]
  simp only [odd_at (show i < 6 by omega)]
  refine ⟨sz_le (by omega), ⟨by omega, by omega⟩, ?_⟩
  rw [Int.toNat_natCast]
  refine lc_rng (fun j => .str (sg (97 + (a + (2 * i + 1) * j) % 26))) (by omega) (fun j hj Θ kΘ => ?_) ?_
  · have e : ((a : Int) + ((2 * i + 1 : Nat) : Int) * ((0 : Int) + (j : Int))) % 26 = (((a + (2 * i + 1) * j) % 26 : Nat) : Int) := by
      rw [Int.zero_add, ← Int.natCast_mul, ← Int.natCast_add]
      rfl
    simp only [gNm, S.put, wipeE, wBin, wIx, wVar, wII, wC, wAdd, wCB, wN1, gInt, wCons, wNil, optP, List.getElem?_cons_zero, List.getElem?_cons_succ, List.set_cons_zero, List.set_cons_succ, e, abc_at (Nat.mod_lt (a + (2 * i + 1) * j) (show 0 < 26 by omega))]
    exact ⟨trivial, .inr ⟨by omega, by omega⟩, by decide, sz_le (by decide +kernel), kΘ _ _ rfl rfl⟩
  · let cs := (List.range (n + 1)).map fun j => 97 + (a + (2 * i + 1) * j) % 26
    have ej := join_signs cs
    have hl : cs.length = n + 1 := by rw [List.length_map, List.length_range]
    refine ⟨cs.map sg, by simp [cs], ?_, k _ _ hq3 ⟨?_, ?_, ?_⟩ ?_⟩
    · rw [empty_len, Nat.mul_zero, Nat.add_zero, List.map_map]
      refine Nat.le_trans (sum_le (m := 1) fun a h => ?_) (by rw [List.length_map]; omega)
      obtain ⟨b, _, rfl⟩ := List.mem_map.mp h
      exact Nat.le_refl _
    · show 1 ≤ (Txt.join (Str.ofString "") (cs.map sg)).cps.size
      rw [← Array.length_toList, ej, hl]
      omega
    · show ((Txt.join (Str.ofString "") (cs.map sg)).cps.size : Int) ≤ m
      rw [← Array.length_toList, ej, hl]
      omega
    · rw [ej]
      intro c hc
      obtain ⟨j, _, rfl⟩ := List.mem_map.mp hc
      have := Nat.mod_lt (a + (2 * i + 1) * j) (show 0 < 26 by omega)
      omega
    · rw [ej]
      exact letters_nodup (by omega) (by omega)
end L01
namespace L01
open PySem PySem.Spec PyProof.Rows L2 DL
theorem loop_ixX {wg : DG} {wb : DS} {Φ : EN} (xs : List PyData) (Inv : Nat → S → Prop) {s : S} (h0 : Inv 0 s)
    (hs : ∀ i x s, xs[i]? = some x → Inv i s → ∀ Ψ : EN, (∀ s, Inv (i + 1) s → Ψ.nx s) → Ψ.ex = Φ.ex → wg x s fun s1 => wb Ψ s1) (hd : ∀ s, Inv xs.length s → Φ.nx s) : loopW wg wb Φ xs s := by
  have key : ∀ (post : List PyData) (i : Nat) (s : S), xs.drop i = post → i ≤ xs.length → Inv i s → loopW wg wb Φ post s := by
    intro post
    induction post with
    | nil =>
      intro i s e hi q
      have : i = xs.length := by
        have := congrArg List.length e
        rw [List.length_drop] at this
        simp at this
        omega
      rw [this] at q
      exact hd s q
    | cons x post ih =>
      intro i s e hi q
      have hx : xs[i]? = some x := by
        have := congrArg (fun l : List PyData => l[0]?) e
        simpa using this
      have hi2 : i < xs.length := (List.getElem?_eq_some_iff.mp hx).1
      have e2 : xs.drop (i + 1) = post := by
        rw [← List.drop_drop, e]
        rfl
      exact hs i x s hx q _ (fun s' q' => ih (i + 1) s' e2 hi2 q') rfl
  exact key xs 0 s rfl (Nat.zero_le _) h0
theorem seq_go {a b : DS} {Φ : EN} {s : S} (h : ∀ Ψ : EN, Ψ.rt = Φ.rt → Ψ.ex = Φ.ex → (∀ s', b Φ s' → Ψ.nx s') → a Ψ s) : wSeq a b Φ s := h _ rfl rfl fun _ h => h
def okAt (cs : List Nat) (i : Nat) : Bool := match cs[i]? with
  | some c => (decide (97 ≤ c) && decide (c ≤ 122)) && !decide (c ∈ cs.take i)
  | none => true
theorem nodup_take (cs : List Nat) : cs.Nodup ↔ ∀ i c, cs[i]? = some c → c ∉ cs.take i := by
  unfold List.Nodup
  rw [List.pairwise_iff_getElem]
  constructor
  · intro h i c hc hm
    obtain ⟨j, hj, e⟩ := List.mem_take_iff_getElem.mp hm
    obtain ⟨hi, e2⟩ := List.getElem?_eq_some_iff.mp hc
    exact h j i (by omega) hi (by omega) (e.trans e2.symm)
  · intro h i j hi hj hij e
    refine h j cs[j] (List.getElem?_eq_getElem hj) ?_
    rw [← e]
    exact List.mem_take_iff_getElem.mpr ⟨i, by omega, rfl⟩
theorem az_ok (cs : List Nat) : (cs.all (fun c => decide (97 ≤ c) && decide (c ≤ 122)) && decide cs.Nodup) = (List.range cs.length).all (okAt cs) := by
  rw [Bool.eq_iff_iff, Bool.and_eq_true, List.all_eq_true, decide_eq_true_iff, List.all_eq_true, nodup_take]
  constructor
  · rintro ⟨h1, h2⟩ i hi
    have hi := List.mem_range.mp hi
    unfold okAt
    rw [List.getElem?_eq_getElem hi]
    simp only [Bool.and_eq_true, Bool.not_eq_true', decide_eq_false_iff_not]
    have := h1 _ (List.getElem_mem hi)
    rw [Bool.and_eq_true] at this
    exact ⟨this, h2 i _ (List.getElem?_eq_getElem hi)⟩
  · intro h
    refine ⟨fun c hc => ?_, fun i c hc => ?_⟩
    · obtain ⟨i, hi, rfl⟩ := List.mem_iff_getElem.mp hc
      have := h i (List.mem_range.mpr hi)
      unfold okAt at this
      rw [List.getElem?_eq_getElem hi, Bool.and_eq_true] at this
      exact this.1
    · have hi := (List.getElem?_eq_some_iff.mp hc).1
      have := h i (List.mem_range.mpr hi)
      unfold okAt at this
      rw [hc] at this
      simp only [Bool.and_eq_true, Bool.not_eq_true', decide_eq_false_iff_not] at this
      exact this.2
theorem azOk_eq (t : Str) : azOk t = (decide (1 ≤ t.length) && decide (t.length ≤ 6) && (List.range t.length).all (okAt t.cps.toList)) := by
  have e : t.cps.toList.length = t.length := Array.length_toList
  unfold azOk
  rw [Bool.and_assoc, az_ok, e]
theorem abc_mem (c : Nat) : c ∈ (Str.ofString "abcdefghijklmnopqrstuvwxyz").cps.toList ↔ 97 ≤ c ∧ c ≤ 122 := by
  rw [abc_cps, List.mem_map]
  constructor
  · rintro ⟨a, h, rfl⟩
    have := List.mem_range.mp h
    omega
  · rintro ⟨h1, h2⟩
    exact ⟨c - 97, List.mem_range.mpr (by omega), by omega⟩
theorem signs_get {t : Str} {i : Nat} {x : PyData} (h : (signsOf t)[i]? = some x) : ∃ c, t.cps.toList[i]? = some c ∧ x = .str ⟨#[c]⟩ := by
  unfold signsOf at h
  rw [List.getElem?_map] at h
  obtain ⟨c, h1, rfl⟩ := Option.map_eq_some_iff.mp h
  exact ⟨c, h1, rfl⟩
theorem signs_len (t : Str) : (signsOf t).length = t.length := by
  unfold signsOf
  rw [List.length_map]
  exact Array.length_toList
theorem cutS_take (t : Str) {i : Nat} (h : i ≤ t.length) : (cutS t none (some (i : Int))).cps.toList = t.cps.toList.take i := by
  unfold cutS HT.sIx
  simp only
  rw [if_neg (by omega)]
  show (List.take (min (i : Int).toNat t.length - 0) (List.drop 0 t.cps.toList)).toArray.toList = _
  rw [List.drop_zero, Int.toNat_natCast, Nat.min_eq_left h, Nat.sub_zero]
theorem w_check_letters (ds : List PyData) (Φ : PyData → Prop) (Ψ : Str → List PyData → Prop) (h : sp_check_letters ds Φ Ψ) : W_check_letters (endX Φ Ψ) ⟨startE ["letters", "place", "sign"] (ds.map .d), []⟩ := by
  obtain ⟨t, rfl, hl, k1, k2⟩ := h
  show W_check_letters (endX Φ Ψ) ⟨[.d (.str t), .un, .un], []⟩
  have e0 := azOk_eq t
  have et : t.cps.toList.length = t.length := Array.length_toList
  unfold W_check_letters
  refine seq_go fun Θ r1 r2 r3 => ?_
  simp [d_MOST_LETTERS]
  refine ⟨sz_le (by omega), ?_⟩
  have ex0 : ∀ s, (¬ (1 ≤ t.length ∧ t.length ≤ 6)) → Θ.ex "BadLetters" [] s := fun s h => by
    rw [r2]
    refine k2 ?_
    rw [e0]
    cases a1 : decide (1 ≤ t.length) with
    | false => rfl
    | true =>
      cases a2 : decide (t.length ≤ 6) with
      | false => rfl
      | true => exact absurd ⟨of_decide_eq_true a1, of_decide_eq_true a2⟩ h
  split
  · split
    · exact ex0 _ (by omega)
    · rename_i g1 g2
      have g1 : 1 ≤ t.length := by omega
      have g2 : t.length ≤ 6 := by omega
      rw [decide_eq_true g1, decide_eq_true g2, Bool.true_and, Bool.true_and] at e0
      refine r3 _ ?_
      show loopW _ _ _ (enumD (signsOf t)) _
      refine loop_ixX (enumD (signsOf t)) (fun i s => (∃ a1 a2, s = ⟨[.d (.str t), a1, a2], []⟩) ∧ ∀ j, j < i → okAt t.cps.toList j = true) ⟨⟨_, _, rfl⟩, fun j hj => by omega⟩ ?_ ?_
      · rintro i x s hx ⟨⟨a1, a2, rfl⟩, ok⟩ Ψ' n1 n2
        obtain ⟨y, hy, rfl⟩ := enumD_get hx
        obtain ⟨c, hc, rfl⟩ := signs_get hy
        have hi : i < t.length := by rw [← et]; exact (List.getElem?_eq_some_iff.mp hc).1
        have em : ∀ d, d ∈ (cutS t none (some (i : Int))).cps.toList ↔ d ∈ t.cps.toList.take i := fun d => by rw [cutS_take t (by omega)]
        have bad : okAt t.cps.toList i = false → Ψ'.ex "BadLetters" [] ⟨[.d (.str t), .d (.int (i : Nat)), .d (.str ⟨#[c]⟩)], []⟩ := fun hb => by
          rw [n2]
          refine k2 ?_
          rw [e0, List.all_eq_false]
          exact ⟨i, List.mem_range.mpr hi, by rw [hb]; exact Bool.false_ne_true⟩
        have good : okAt t.cps.toList i = true → Ψ'.nx ⟨[.d (.str t), .d (.int (i : Nat)), .d (.str ⟨#[c]⟩)], []⟩ := fun hg => n1 _ ⟨⟨_, _, rfl⟩, fun j hj => by
          by_cases hji : j = i
          · rw [hji]
            exact hg
          · exact ok j (by omega)⟩
        have eo : okAt t.cps.toList i = ((decide (97 ≤ c) && decide (c ≤ 122)) && !decide (c ∈ t.cps.toList.take i)) := by
          unfold okAt
          rw [hc]
        simp [d_ALPHABET]
        by_cases h1 : c ∈ (Str.ofString "abcdefghijklmnopqrstuvwxyz").cps.toList
        · have h1' := (abc_mem c).mp h1
          rw [if_pos (Array.mem_toList_iff.mp h1)]
          refine ⟨sz_le (by omega), ?_⟩
          by_cases h2 : c ∈ t.cps.toList.take i
          · rw [if_pos (Array.mem_toList_iff.mp ((em c).mpr h2))]
            exact bad (by rw [eo, decide_eq_true h2]; simp)
          · rw [if_neg (fun z => h2 ((em c).mp (Array.mem_toList_iff.mpr z)))]
            exact good (by rw [eo, decide_eq_true h1'.1, decide_eq_true h1'.2, decide_eq_false h2]; rfl)
        · rw [if_neg (fun z => h1 (Array.mem_toList_iff.mpr z))]
          refine bad ?_
          rw [eo]
          cases a1 : decide (97 ≤ c) with
          | false => rfl
          | true =>
            cases a2 : decide (c ≤ 122) with
            | false => rfl
            | true => exact absurd ((abc_mem c).mpr ⟨of_decide_eq_true a1, of_decide_eq_true a2⟩) h1
      · rintro s ⟨_, ok⟩
        refine k1 ?_
        rw [e0, List.all_eq_true]
        intro j hj
        refine ok j ?_
        rw [enumD_len, signs_len]
        exact List.mem_range.mp hj
  · exact ex0 _ (by omega)
theorem w_law_checked (ds : List PyData) (Φ : PyData → Prop) (h : sp_law_checked ds Φ) : W__law_checked (endD Φ) ⟨startE ["text"] (ds.map .d), []⟩ := by
  obtain ⟨t, rfl, hl, h⟩ := h
  show W__law_checked (endD Φ) ⟨[.d (.str t)], []⟩
  unfold W__law_checked
  refine seq_go fun Θ r1 r2 r3 => ?_
  simp only [wTryN2, wExpX, wVar, wCons, wNil, List.getElem?_cons_zero]
  refine ⟨t, rfl, hl, fun a => ?_, fun a => ⟨by decide +kernel, ?_⟩⟩
  · refine r3 _ ?_
    rw [a] at h
    exact h
  · unfold pickC2
    rw [if_pos (by decide)]
    intro _ _
    show Θ.rt (.bool false) _
    rw [r1]
    rw [a] at h
    exact h
theorem w_law_are_letters (ds : List PyData) (Φ : PyData → Prop) (h : sp_law_are_letters ds Φ) : W__law_are_letters (endD Φ) ⟨startE ["text", "k"] (ds.map .d), []⟩ := by
  obtain ⟨t, rfl, hl, h⟩ := h
  show W__law_are_letters (endD Φ) ⟨[.d (.str t), .un], []⟩
  have e0 := azOk_eq t
  have et : t.cps.toList.length = t.length := Array.length_toList
  unfold W__law_are_letters
  refine seq_go fun Θ r1 r2 r3 => ?_
  simp
  have sz : t.length ≤ sizeLine := sz_le (by omega)
  refine ⟨sz, ?_⟩
  by_cases g1 : t.length < 1
  · rw [if_pos (by omega), r1]
    rw [decide_eq_false (by omega : ¬ 1 ≤ t.length), Bool.false_and, Bool.false_and] at e0
    rw [e0] at h
    exact h
  rw [if_neg (by omega)]
  refine ⟨sz, ?_⟩
  by_cases g2 : 6 < t.length
  · rw [if_pos (by omega), r1]
    rw [decide_eq_false (by omega : ¬ t.length ≤ 6), Bool.and_false, Bool.false_and] at e0
    rw [e0] at h
    exact h
  rw [if_neg (by omega)]
  refine r3 _ ?_
  clear r1 r2 r3 Θ
  rw [decide_eq_true (by omega : 1 ≤ t.length), decide_eq_true (by omega : t.length ≤ 6), Bool.true_and, Bool.true_and] at e0
  simp [-List.map_map]
  refine ⟨sz, ⟨by omega, by omega⟩, ?_⟩
  refine lc_rng (fun i => .bool (okAt t.cps.toList i)) (by omega) (fun i hi Θ kΘ => ?_) ?_
  · have hc : t.cps.toList[i]? = some (t.cps.toList[i]'(by omega)) := List.getElem?_eq_getElem (by omega)
    generalize t.cps.toList[i]'(by omega) = c at hc
    have ea : atI t.cps.toList (i : Int) = some c := by rw [DL.atI_nat (by omega)]; exact hc
    have em : ∀ d, d ∈ (cutS t none (some (i : Int))).cps.toList ↔ d ∈ t.cps.toList.take i := fun d => by rw [cutS_take t (by omega)]
    have eo : okAt t.cps.toList i = ((decide (97 ≤ c) && decide (c ≤ 122)) && !decide (c ∈ t.cps.toList.take i)) := by
      unfold okAt
      rw [hc]
    simp
    simp only [ea]
    have fin : ∀ s1 s3 : S, s3.e = s1.e → s3.q = [] → ∀ b : Bool, okAt t.cps.toList i = b → Θ s1 (.bool b) s3 := fun s1 s3 e1 e2 b e => by
      rw [← e]
      exact kΘ s1 s3 e1 e2
    refine ⟨sz, ?_⟩
    by_cases h1 : c ∈ (Str.ofString "abcdefghijklmnopqrstuvwxyz").cps.toList
    · have h1' := (abc_mem c).mp h1
      rw [if_pos (Array.mem_toList_iff.mp h1)]
      refine ⟨sz, sz, fin _ _ rfl rfl _ ?_⟩
      rw [eo, decide_eq_true h1'.1, decide_eq_true h1'.2]
      by_cases h2 : c ∈ t.cps.toList.take i
      · rw [decide_eq_true h2, decide_eq_true (Array.mem_toList_iff.mp ((em c).mpr h2))]
        rfl
      · rw [decide_eq_false h2, decide_eq_false (fun z => h2 ((em c).mp (Array.mem_toList_iff.mpr z)))]
        rfl
    · rw [if_neg (fun z => h1 (Array.mem_toList_iff.mpr z))]
      refine fin _ _ rfl rfl _ ?_
      rw [eo]
      cases a1 : decide (97 ≤ c) with
      | false => rfl
      | true =>
        cases a2 : decide (c ≤ 122) with
        | false => rfl
        | true => exact absurd ((abc_mem c).mpr ⟨of_decide_eq_true a1, of_decide_eq_true a2⟩) h1
  · refine ⟨(List.range t.length).map (okAt t.cps.toList), ?_, ?_⟩
    · rw [List.map_map]
      rfl
    · rw [List.all_map]
      rw [e0] at h
      exact h
end L01
namespace L01
open PySem PySem.Spec PyProof.Rows L2 DL
theorem small_fmt : ∀ i : Nat, i < 310 → (toString ((i : Nat) : Int) : Str).length ≤ 1000 ∧ ((i : Nat) : Int).natAbs.log2 < 1920 := by decide +kernel
theorem fmt_nat {i : Nat} (h : i < 310) : fmtD (.int (i : Nat)) := ⟨(small_fmt i h).2, (small_fmt i h).1⟩
theorem w_check_word (ds : List PyData) (Φ : PyData → Prop) (Ψ : Str → List PyData → Prop) (h : sp_check_word ds Φ Ψ) : W_check_word (endX Φ Ψ) ⟨startE ["letters", "word", "most", "place", "sign"] (ds.map .d), []⟩ := by
  obtain ⟨z, w, m, rfl, hz, hw, k1, k2⟩ := h
  show W_check_word (endX Φ Ψ) ⟨[.d (.str z), .d (.str w), .d (.int m), .un, .un], []⟩
  have ew : w.cps.toList.length = w.length := Array.length_toList
  have szw : w.length ≤ sizeLine := sz_le (by omega)
  unfold W_check_word
  refine seq_go fun Θ r1 r2 r3 => ?_
  show loopW _ _ _ (enumD (signsOf w)) _
  refine loop_ixX (enumD (signsOf w)) (fun i s => (∃ a3 a4, s = ⟨[.d (.str z), .d (.str w), .d (.int m), a3, a4], []⟩) ∧ ∀ j c, j < i → w.cps.toList[j]? = some c → c ∈ z.cps.toList) ⟨⟨_, _, rfl⟩, fun j c hj => by omega⟩ ?_ ?_
  · rintro i x s hx ⟨⟨a3, a4, rfl⟩, ok⟩ Ψ' n1 n2
    obtain ⟨y, hy, rfl⟩ := enumD_get hx
    obtain ⟨c, hc, rfl⟩ := signs_get hy
    obtain ⟨hi, hci⟩ := List.getElem?_eq_some_iff.mp hc
    simp
    by_cases h1 : c ∈ z.cps.toList
    · rw [if_pos (Array.mem_toList_iff.mp h1)]
      refine n1 _ ⟨⟨_, _, rfl⟩, fun j d hj hd => ?_⟩
      by_cases hji : j = i
      · rw [hji, hc] at hd
        cases hd
        exact h1
      · exact ok j d (by omega) hd
    · rw [if_neg (fun z => h1 (Array.mem_toList_iff.mpr z))]
      refine ⟨fmt_nat (by omega), ?_⟩
      rw [n2, r2]
      refine k1 i ?_
      unfold badAt
      rw [List.findIdx?_eq_some_iff_getElem]
      refine ⟨hi, by simpa [hci] using h1, fun j hj => ?_⟩
      have := ok j _ hj (List.getElem?_eq_getElem (by omega))
      simpa using this
  · rintro s ⟨⟨a3, a4, rfl⟩, ok⟩
    rw [enumD_len, signs_len] at ok
    have hb : badAt z w = none := by
      unfold badAt
      rw [List.findIdx?_eq_none_iff]
      intro c hc
      obtain ⟨j, hj, rfl⟩ := List.mem_iff_getElem.mp hc
      have := ok j _ (by omega) (List.getElem?_eq_getElem hj)
      simpa using this
    obtain ⟨g1, g2⟩ := k2 hb
    refine r3 _ ?_
    simp
    refine ⟨szw, ?_⟩
    by_cases hm : (w.length : Int) > m
    · rw [if_pos hm]
      exact ⟨szw, fmt_nat (by omega), g1 hm⟩
    · rw [if_neg hm]
      exact g2 (by omega)
theorem w_law_told (ds : List PyData) (Φ : PyData → Prop) (h : sp_law_told ds Φ) : W__law_told (endD Φ) ⟨startE ["letters", "word", "most", "e"] (ds.map .d), []⟩ := by
  obtain ⟨z, w, hz, hw, h⟩ := h
  have main : ∀ (m : Int) (s : S) (Θ : EN), Θ.rt = (endD Φ).rt → (∀ s' : S, Φ (.tuple [.str "good", .int 0]) → Θ.nx s') → (∃ a e, s = ⟨[.d (.str z), .d (.str w), a, e], []⟩) → Φ (toldD z w m) →
      sp_check_word [.str z, .str w, .int m] (fun _ => Θ.nx s) fun c xs => c ∈ ERL ∧ pickC bE c xs s Θ ((3, "BadWord", fun ea ec ed => (wRet (wTup (wCons (wC (.str ("word" : Str))) (wCons (wFldN ea ed "place" (wVar 3)) wNil))))) :: ((3, "BadSize", fun ea ec ed => (wRet (wTup (wCons (wC (.str ("size" : Str))) (wCons (wFldN ea ed "size" (wVar 3)) wNil))))) :: [])) := by
    rintro m s Θ r1 r3 ⟨a, e, rfl⟩ h
    refine ⟨z, w, m, rfl, hz, hw, fun i hi => ⟨by decide +kernel, ?_⟩, fun hb => ⟨fun hm => ⟨by decide +kernel, ?_⟩, fun hm => r3 _ ?_⟩⟩
    · unfold toldD at h
      rw [hi] at h
      unfold pickC
      rw [if_pos (by decide +kernel)]
      refine ⟨fun e => (by cases e), fun _ a dd => ?_⟩
      simp [enAs, S.put, r1, fldAt]
      exact ⟨sz_le (by decide), h⟩
    · unfold toldD at h
      rw [hb] at h
      simp only [if_pos hm] at h
      unfold pickC
      rw [if_neg (by decide +kernel)]
      unfold pickC
      rw [if_pos (by decide +kernel)]
      refine ⟨fun e => (by cases e), fun _ a dd => ?_⟩
      simp [enAs, S.put, r1, fldAt]
      exact ⟨sz_le (by decide), h⟩
    · unfold toldD at h
      rw [hb] at h
      simp only [if_neg (by omega : ¬ (w.length : Int) > m)] at h
      exact h
  rcases h with ⟨rfl, h⟩ | ⟨m, rfl, h⟩
  · show W__law_told (endD Φ) ⟨[.d (.str z), .d (.str w), .d .none, .un], []⟩
    unfold W__law_told
    refine seq_go fun Θ r1 r2 r3 => ?_
    simp
    exact main 200 _ Θ r1 (fun s' h => r3 s' ⟨sz_le (by decide), h⟩) ⟨_, _, rfl⟩ h
  · show W__law_told (endD Φ) ⟨[.d (.str z), .d (.str w), .d (.int m), .un], []⟩
    unfold W__law_told
    refine seq_go fun Θ r1 r2 r3 => ?_
    simp
    exact main m _ Θ r1 (fun s' h => r3 s' ⟨sz_le (by decide), h⟩) ⟨_, _, rfl⟩ h
end L01
namespace L01
open PySem PySem.Spec PyProof.Rows L2 DL PySem.W
/-- a word's key -/
def keyW (w : List Nat) : PyData := .tuple [.int (w.length : Nat), .list (w.map fun a => .int (a : Nat))]
def intsT : List Nat → List (Int ⊕ List Nat)
  | [] => [.inl 0]
  | a :: w => .inl 1 :: .inl (a : Nat) :: intsT w
theorem toks_ints : ∀ w : List Nat, keyToksAll (w.map fun a => PyData.int (a : Nat)) = intsT w
  | [] => rfl
  | a :: w => by
    show Sum.inl 1 :: ([Sum.inl ((a : Nat) : Int)] ++ keyToksAll (w.map fun a => PyData.int (a : Nat))) = _
    rw [toks_ints w]
    rfl
theorem toks_key (w : List Nat) : keyToks (keyW w) = [.inl 1, .inl (w.length : Nat), .inl 1] ++ (intsT w ++ [.inl 0]) := by
  show Sum.inl 1 :: ([Sum.inl ((w.length : Nat) : Int)] ++ (Sum.inl 1 :: (keyToksAll (w.map fun a => PyData.int (a : Nat)) ++ [Sum.inl 0]))) = _
  rw [toks_ints]
  rfl
theorem lt_int (a b : Nat) (l m : List (Int ⊕ List Nat)) : PyProof.Rows.lexLt itemOrd (.inl (a : Nat) :: l) (.inl (b : Nat) :: m) = (decide (a < b) || (decide (a = b) && PyProof.Rows.lexLt itemOrd l m)) := by
  rw [lex_cons]
  show (decide ((a : Int) < b) || (!decide ((b : Int) < a) && _)) = _
  by_cases h : a < b
  · rw [decide_eq_true h, decide_eq_true (by omega : (a : Int) < b)]
    rfl
  · rw [decide_eq_false h, decide_eq_false (by omega : ¬ (a : Int) < b), Bool.false_or, Bool.false_or]
    by_cases h2 : a = b
    · rw [decide_eq_true h2, decide_eq_false (by omega : ¬ (b : Int) < a)]
      rfl
    · rw [decide_eq_false h2, decide_eq_true (by omega : (b : Int) < a)]
      rfl
theorem lt_one (l m : List (Int ⊕ List Nat)) : PyProof.Rows.lexLt itemOrd (.inl 1 :: l) (.inl 1 :: m) = PyProof.Rows.lexLt itemOrd l m := by
  have := lt_int 1 1 l m
  simpa using this
theorem ints_lt : ∀ {v w : List Nat} (x y : List (Int ⊕ List Nat)), v.length = w.length → v < w → PyProof.Rows.lexLt itemOrd (intsT v ++ x) (intsT w ++ y) = true
  | [], [], x, y, _, h => absurd h (List.lt_irrefl _)
  | a :: v, b :: w, x, y, hl, h => by
    show PyProof.Rows.lexLt itemOrd (.inl 1 :: .inl (a : Nat) :: (intsT v ++ x)) (.inl 1 :: .inl (b : Nat) :: (intsT w ++ y)) = true
    rw [lt_one, lt_int]
    rcases List.cons_lt_cons_iff.mp h with h2 | ⟨rfl, h2⟩
    · rw [decide_eq_true h2]
      rfl
    · rw [ints_lt (v := v) (w := w) x y (by simpa using hl) h2]
      simp
theorem key_lt {v w : List Nat} (h : ahead v w = true) : PyProof.Rows.lexLt itemOrd (keyToks (keyW v)) (keyToks (keyW w)) = true := by
  rw [toks_key, toks_key]
  show PyProof.Rows.lexLt itemOrd (.inl 1 :: .inl (v.length : Nat) :: .inl 1 :: (intsT v ++ [.inl 0])) (.inl 1 :: .inl (w.length : Nat) :: .inl 1 :: (intsT w ++ [.inl 0])) = true
  rw [lt_one, lt_int, lt_one]
  unfold ahead at h
  rw [Bool.or_eq_true, Bool.and_eq_true, decide_eq_true_iff, decide_eq_true_iff, decide_eq_true_iff] at h
  rcases h with h | ⟨h1, h2⟩
  · rw [decide_eq_true h]
    rfl
  · rw [ints_lt _ _ h1 h2, decide_eq_true h1]
    simp
theorem tri : ∀ v w : List Nat, v.length = w.length → v < w ∨ w < v ∨ v = w
  | [], [], _ => .inr (.inr rfl)
  | a :: v, b :: w, h => by
    rcases Nat.lt_trichotomy a b with q | q | q
    · exact .inl (List.cons_lt_cons_iff.mpr (.inl q))
    · subst q
      rcases tri v w (by simpa using h) with z | z | z
      · exact .inl (List.cons_lt_cons_iff.mpr (.inr ⟨rfl, z⟩))
      · exact .inr (.inl (List.cons_lt_cons_iff.mpr (.inr ⟨rfl, z⟩)))
      · exact .inr (.inr (by rw [z]))
    · exact .inr (.inl (List.cons_lt_cons_iff.mpr (.inl q)))
theorem ahead_tri (v w : List Nat) : ahead v w = true ∨ ahead w v = true ∨ v = w := by
  unfold ahead
  simp only [Bool.or_eq_true, Bool.and_eq_true, decide_eq_true_iff]
  rcases Nat.lt_trichotomy v.length w.length with q | q | q
  · exact .inl (.inl q)
  · rcases tri v w q with z | z | z
    · exact .inl (.inr ⟨q, z⟩)
    · exact .inr (.inl (.inr ⟨q.symm, z⟩))
    · exact .inr (.inr z)
  · exact .inr (.inl (.inl q))
/-- the words sorted by their keys -/
theorem sort_words {z : Str} {D : List (List Nat)} (kf : PyData → PyData) (hk : ∀ w, w ∈ D → kf (wdD z w) = keyW w) (nd : D.Nodup) :
    ∃ R : List (List Nat), (D.map (wdD z)).mergeSort (dataLe false kf) = R.map (wdD z) ∧ R.Perm D ∧ R.Pairwise fun v w => ahead v w = true := by
  let le : List Nat → List Nat → Bool := fun v w => dataLe false kf (wdD z v) (wdD z w)
  have tl := sortLe_total (listOrd itemOrd) false fun w : List Nat => keyToks (kf (wdD z w))
  have hp : (D.mergeSort le).Perm D := List.mergeSort_perm D le
  refine ⟨D.mergeSort le, (List.map_mergeSort (r := le) (s := dataLe false kf) (f := wdD z) (l := D) fun _ _ _ _ => rfl).symm, hp, ?_⟩
  have p1 : (D.mergeSort le).Pairwise fun v w => le v w = true := List.pairwise_mergeSort (fun a b c => tl.trans a b c) (fun a b => by rw [Bool.or_eq_true]; exact tl.total a b) D
  have p2 : (D.mergeSort le).Pairwise fun v w => v ≠ w := hp.nodup_iff.mpr nd
  refine (p1.and p2).imp_of_mem fun {v w} hv hw h => ?_
  rcases ahead_tri v w with q | q | q
  · exact q
  · have h1 : (!PyProof.Rows.lexLt itemOrd (keyToks (kf (wdD z w))) (keyToks (kf (wdD z v)))) = true := h.1
    rw [hk w (hp.mem_iff.mp hw), hk v (hp.mem_iff.mp hv), key_lt q] at h1
    cases h1
  · exact absurd q h.2
theorem alike_ints : ∀ v w : List Nat, alikeAll (v.map fun a => PyData.int (a : Nat)) (w.map fun a => PyData.int (a : Nat)) = true
  | [], _ => by simp [alikeAll]
  | _ :: _, [] => by simp [alikeAll]
  | a :: v, b :: w => by
    rw [List.map_cons, List.map_cons, alikeAll, alike_ints v w]
    rfl
theorem alike_key (v w : List Nat) : alike (keyW v) (keyW w) = true := by
  unfold keyW
  simp [alike, alikeAll, alike_ints]
theorem depth_ints : ∀ v : List Nat, PyData.depthAll (v.map fun a => PyData.int (a : Nat)) ≤ 5 ∧ PyData.hasDictAll (v.map fun a => PyData.int (a : Nat)) = false
  | [] => by simp [PyData.depthAll, PyData.hasDictAll]
  | a :: v => by
    have := depth_ints v
    rw [List.map_cons]
    simp [PyData.depthAll, PyData.hasDictAll, PyData.depth, PyData.hasDict]
    exact this
theorem depth_key (v : List Nat) : (keyW v).depth ≤ 60 ∧ (keyW v).hasDict = false := by
  have := depth_ints v
  unfold keyW
  simp [PyData.depthAll, PyData.hasDictAll, PyData.depth, PyData.hasDict, this.2]
  omega
end L01
namespace L01
open PySem PySem.Spec PyProof.Rows L2 DL PySem.W
theorem putP_keys (l : List (PyData × PyData)) (k x : PyData) : (putP l k x).map (·.1) = if (l.any fun p => keyEq p.1 k) = true then l.map (·.1) else l.map (·.1) ++ [k] := by
  unfold putP
  split
  · rw [List.map_map]
    refine List.map_congr_left fun p _ => ?_
    show (if keyEq p.1 k = true then (p.1, x) else p).1 = p.1
    split <;> rfl
  · rw [List.map_append]
    rfl
theorem wS_inj {z : Str} (nd : z.cps.toList.Nodup) {v w : List Nat} (hv : ∀ a, a ∈ v → a < z.length) (hw : ∀ a, a ∈ w → a < z.length) (h : wS z v = wS z w) : v = w := by
  have e : (v.map fun a => cz z a) = w.map fun a => cz z a := by
    have := congrArg (fun s : Str => s.cps.toList) h
    simpa [wS] using this
  have i1 : (v.map fun a => cz z a).map (fun c => z.cps.toList.idxOf c) = v := by
    rw [List.map_map]
    conv => rhs; rw [← List.map_id v]
    exact List.map_congr_left fun a ha => idx_at nd (hv a ha)
  have i2 : (w.map fun a => cz z a).map (fun c => z.cps.toList.idxOf c) = w := by
    rw [List.map_map]
    conv => rhs; rw [← List.map_id w]
    exact List.map_congr_left fun a ha => idx_at nd (hw a ha)
  rw [← i1, ← i2, e]
theorem key_any {z : Str} (nd : z.cps.toList.Nodup) {w : List Nat} (hw : ∀ a, a ∈ w → a < z.length) : ∀ {l : List (PyData × PyData)} {D : List (List Nat)}, l.map (·.1) = D.map (wdD z) → (∀ v, v ∈ D → ∀ a, a ∈ v → a < z.length) → (l.any fun p => keyEq p.1 (wdD z w)) = decide (w ∈ D)
  | [], [], _, _ => rfl
  | p :: l, v :: D, h, hD => by
    rw [List.map_cons, List.map_cons] at h
    injection h with h1 h2
    rw [List.any_cons, key_any nd hw h2 fun v hv => hD v (List.mem_cons_of_mem _ hv), h1]
    have e : keyEq (wdD z v) (wdD z w) = decide (wS z v = wS z w) := rfl
    rw [e]
    by_cases q : w = v
    · subst q
      simp
    · rw [decide_eq_false (fun z => q (wS_inj nd hw (hD v List.mem_cons_self) z.symm)), Bool.false_or]
      simp [q]
  | [], _ :: _, h, _ => by cases h
  | _ :: _, [], h, _ => by cases h
theorem dc_words {z : Str} (nd : z.cps.toList.Nodup) {ws0 : PyData} {Φ : List (PyData × PyData) → List Int → Prop} : ∀ (ws : List (List Nat)) (acc : List (PyData × PyData)) (D : List (List Nat)), acc.map (·.1) = D.map (wdD z) → D.Nodup → (∀ v, v ∈ D → ∀ a, a ∈ v → a < z.length) → (∀ v, v ∈ ws → ∀ a, a ∈ v → a < z.length) →
    D.length + ws.length ≤ 200 → (∀ (acc' : List (PyData × PyData)) (D' : List (List Nat)), acc'.map (·.1) = D'.map (wdD z) → D'.Nodup → (∀ w, w ∈ D' ↔ w ∈ D ∨ w ∈ ws) → D'.length ≤ D.length + ws.length → Φ acc' []) →
    dcW [3] [.d (.str z), .d ws0, .un, .un] (gNm 3) wYes (wVar 3) (wC (.bool true)) Φ (ws.map (wdD z)) acc []
  | [], acc, D, h1, h2, _, _, _, k => k acc D h1 h2 (fun w => by simp) (Nat.le_refl _)
  | w :: ws, acc, D, h1, h2, h3, h4, h5, k => by
    have hw := h4 w List.mem_cons_self
    have la : acc.length = D.length := by
      have := congrArg List.length h1
      simpa using this
    rw [List.map_cons]
    have h6 : D.length + (ws.length + 1) ≤ 200 := h5
    simp [dcW]
    refine ⟨rfl, sz_lt (by omega), ?_⟩
    have e := putP_keys acc (wdD z w) (.bool true)
    rw [key_any nd hw h1 h3, h1] at e
    by_cases q : w ∈ D
    · rw [if_pos (decide_eq_true q)] at e
      exact dc_words nd ws _ D e h2 h3 (fun v hv => h4 v (List.mem_cons_of_mem _ hv)) (by omega) fun acc' D' g1 g2 g3 g4 => k acc' D' g1 g2 (fun v => by
        rw [g3 v, List.mem_cons]
        constructor
        · rintro (a | a)
          · exact .inl a
          · exact .inr (.inr a)
        · rintro (a | a | a)
          · exact .inl a
          · rw [a]
            exact .inl q
          · exact .inr a) (by simp only [List.length_cons]; omega)
    · rw [if_neg (by rw [decide_eq_false q]; exact Bool.false_ne_true)] at e
      have e2 : (putP acc (wdD z w) (.bool true)).map (·.1) = (D ++ [w]).map (wdD z) := by
        rw [e, List.map_append]
        rfl
      refine dc_words nd ws _ (D ++ [w]) e2 ?_ (fun v hv => ?_) (fun v hv => h4 v (List.mem_cons_of_mem _ hv)) (by simp only [List.length_append, List.length_cons, List.length_nil]; omega) fun acc' D' g1 g2 g3 g4 => k acc' D' g1 g2 (fun v => ?_) (by simp only [List.length_append, List.length_cons, List.length_nil] at g4 ⊢; omega)
      · rw [List.nodup_append]
        refine ⟨h2, List.nodup_cons.mpr ⟨(fun z => by cases z), List.nodup_nil⟩, fun a ha b hb => ?_⟩
        rw [List.mem_singleton.mp hb]
        exact fun z => q (z ▸ ha)
      · rcases List.mem_append.mp hv with a | a
        · exact h3 v a
        · rw [List.mem_singleton.mp a]
          exact hw
      · rw [g3 v, List.mem_append, List.mem_singleton, List.mem_cons]
        exact or_assoc
def kfW (z : Str) : PyData → PyData
  | .str x => .tuple [.int (x.length : Nat), .list (x.cps.toList.map fun c => .int (z.cps.toList.idxOf c : Nat))]
  | d => d
theorem kfW_at {z : Str} (nd : z.cps.toList.Nodup) {w : List Nat} (hw : ∀ a, a ∈ w → a < z.length) : kfW z (wdD z w) = keyW w := by
  show PyData.tuple [.int ((wS z w).length : Nat), .list ((wS z w).cps.toList.map fun c => .int (z.cps.toList.idxOf c : Nat))] = _
  unfold keyW
  have e : ((wS z w).cps.toList.map fun c => PyData.int (z.cps.toList.idxOf c : Nat)) = w.map fun a => PyData.int (a : Nat) := by
    unfold wS
    rw [List.toList_toArray, List.map_map]
    exact List.map_congr_left fun a ha => by
      show PyData.int ((z.cps.toList.idxOf (cz z a) : Nat) : Int) = _
      rw [idx_at nd (hw a ha)]
  rw [e, wS_len]
theorem w_in_order (ds : List PyData) (Φ : PyData → Prop) (h : sp_in_order ds Φ) : W_in_order (endD Φ) ⟨startE ["letters", "words", "once", "word"] (ds.map .d), []⟩ := by
  obtain ⟨z, L, rfl, hz, nd, ⟨hL, hw⟩, h⟩ := h
  show W_in_order (endD Φ) ⟨[.d (.str z), .d (.list (L.map (wdD z))), .un, .un], []⟩
  unfold W_in_order
  refine seq_go fun Θ r1 r2 r3 => ?_
  simp
  refine dc_words nd L [] [] rfl List.nodup_nil (fun v hv => by cases hv) (fun v hv => (hw v hv).2) (by simp; omega) fun acc D g1 g2 g3 g4 => r3 _ ?_
  have g3 : ∀ w, w ∈ D ↔ w ∈ L := fun w => by rw [g3 w]; simp
  have g4 : D.length ≤ 60 := by simp at g4; omega
  have hD : ∀ v, v ∈ D → ∀ a, a ∈ v → a < z.length := fun v hv => (hw v ((g3 v).mp hv)).2
  have hD2 : ∀ v, v ∈ D → v.length ≤ 60 := fun v hv => (hw v ((g3 v).mp hv)).1
  simp [S.put]
  refine ⟨acc, ⟨rfl, rfl⟩, ?_⟩
  have ek : acc.map (fun x => x.1) = D.map (wdD z) := g1
  rw [ek]
  refine ⟨D.map (wdD z), [.str z], kfW z, rfl, rfl, fun d hd => ?_, ?_, ?_, fun d hd => ?_, ?_⟩
  · obtain ⟨w, hwD, rfl⟩ := List.mem_map.mp hd
    have l60 := hD2 w hwD
    have hw1 := hD w hwD
    rw [kfW_at nd hw1]
    have szw : (wS z w).length ≤ sizeLine := sz_le (by rw [wS_len]; omega)
    show wTup _ ⟨[.d (.str (wS z w)), .d (.str z), .un], []⟩ _
    simp [signs_wS]
    refine ⟨szw, ?_⟩
    refine lc_mapl w (fun a => .str (sg (cz z a))) (fun a => .int (a : Nat)) (by omega) (fun a ha Θ kΘ => ?_) ?_
    · simp
      refine ⟨cz z a, rfl, Array.mem_toList_iff.mp (idx_mem (hw1 a ha)), ?_⟩
      rw [idx_at nd (hw1 a ha)]
      exact kΘ _ _ rfl rfl
    · refine ⟨sz_le (by decide), ?_⟩
      unfold keyW
      rw [wS_len]
  · intro d hd d' hd'
    rw [List.map_map] at hd hd'
    obtain ⟨v, hv, rfl⟩ := List.mem_map.mp hd
    obtain ⟨w, hw', rfl⟩ := List.mem_map.mp hd'
    show alike (kfW z (wdD z v)) (kfW z (wdD z w)) = true
    rw [kfW_at nd (hD v hv), kfW_at nd (hD w hw')]
    exact alike_key v w
  · refine .inl fun d hd => ?_
    rw [List.map_map] at hd
    obtain ⟨v, hv, rfl⟩ := List.mem_map.mp hd
    exact ⟨_, _, rfl⟩
  · obtain ⟨w, hwD, rfl⟩ := List.mem_map.mp hd
    rw [kfW_at nd (hD w hwD)]
    exact depth_key w
  · obtain ⟨R, e, hp, hR⟩ := sort_words (z := z) (kfW z) (fun w hw => kfW_at nd (hD w hw)) g2
    rw [e]
    exact h R (fun w => by rw [hp.mem_iff, g3 w]) (by rw [hp.length_eq]; exact g4) hR
end L01
namespace L01
open PySem PySem.Spec PyProof.Rows L2 DL
theorem lt_first : ∀ {v w : List Nat} {k a b : Nat}, v.length = w.length → v < w → v.take k = w.take k → v[k]? = some a → w[k]? = some b → a ≠ b → a < b
  | [], _, _, _, _, _, _, _, h, _, _ => by cases h
  | _ :: _, [], _, _, _, h, _, _, _, _, _ => by cases h
  | x :: v, y :: w, 0, a, b, _, h, _, h1, h2, ne => by
    rw [List.getElem?_cons_zero] at h1 h2
    cases h1
    cases h2
    rcases List.cons_lt_cons_iff.mp h with z | ⟨z, _⟩
    · exact z
    · exact absurd z ne
  | x :: v, y :: w, k + 1, a, b, hl, h, ht, h1, h2, ne => by
    rw [List.getElem?_cons_succ] at h1 h2
    rw [List.take_succ_cons, List.take_succ_cons] at ht
    injection ht with e1 e2
    rcases List.cons_lt_cons_iff.mp h with z | ⟨_, z⟩
    · rw [e1] at z
      exact absurd z (Nat.lt_irrefl _)
    · exact lt_first (by simpa using hl) z e2 h1 h2 ne
theorem at_word {z : Str} {w : List Nat} {k a : Nat} (h : w[k]? = some a) : atI (wS z w).cps.toList (k : Int) = some (cz z a) := by
  have hk := (List.getElem?_eq_some_iff.mp h).1
  have e : (wS z w).cps.toList = w.map fun a => cz z a := by unfold wS; rw [List.toList_toArray]
  rw [e, DL.atI_nat (by rw [List.length_map]; exact hk), List.getElem?_map, h]
  rfl
theorem cz_inj {z : Str} (nd : z.cps.toList.Nodup) {a b : Nat} (ha : a < z.length) (hb : b < z.length) (h : cz z a = cz z b) : a = b := by
  rw [← idx_at nd ha, ← idx_at nd hb, h]
theorem w_law_ahead (ds : List PyData) (Φ : PyData → Prop) (h : sp_law_ahead ds Φ) : W__law_ahead (endD Φ) ⟨startE ["letters", "one", "other", "k"] (ds.map .d), []⟩ := by
  obtain ⟨z, v, w, rfl, hz, nd, lv, lw, hv, hw, ha, h⟩ := h
  show W__law_ahead (endD Φ) ⟨[.d (.str z), .d (.str (wS z v)), .d (.str (wS z w)), .un], []⟩
  have szv : (wS z v).length ≤ sizeLine := sz_le (by rw [wS_len]; omega)
  have szw : (wS z w).length ≤ sizeLine := sz_le (by rw [wS_len]; omega)
  unfold ahead at ha
  rw [Bool.or_eq_true, Bool.and_eq_true, decide_eq_true_iff, decide_eq_true_iff, decide_eq_true_iff] at ha
  unfold W__law_ahead
  refine seq_go fun Θ r1 r2 r3 => ?_
  simp [wS_len, r1] at szv szw ⊢
  refine ⟨szv, szw, ?_⟩
  by_cases hl : v.length = w.length
  · have hlt : v < w := by
      rcases ha with z | z
      · omega
      · exact z.2
    rw [if_pos (by rw [hl])]
    refine r3 _ ?_
    refine seq_go fun Θ2 r1 r2 r4 => ?_
    simp [-List.map_map, wS_len]
    refine ⟨szv, ⟨by omega, by omega⟩, ?_⟩
    refine loop_rng (fun k s => (∃ a3, s = ⟨[.d (.str z), .d (.str (wS z v)), .d (.str (wS z w)), a3], []⟩) ∧ v.take k = w.take k) ⟨⟨_, rfl⟩, rfl⟩ ?_ ?_
    · rintro k s hk ⟨⟨a3, rfl⟩, ht⟩ Ψ k1 k2 k3 k4 k5
      have h1 : v[k]? = some (v[k]'hk) := List.getElem?_eq_getElem hk
      have h2 : w[k]? = some (w[k]'(by omega)) := List.getElem?_eq_getElem (by omega)
      have ha1 := hv _ (List.getElem_mem hk)
      have ha2 := hw _ (List.getElem_mem (show k < w.length by omega))
      generalize v[k]'hk = a at h1 ha1
      generalize w[k]'(by omega) = b at h2 ha2
      have e1 := at_word (z := z) h1
      have e2 := at_word (z := z) h2
      simp
      simp only [e1, e2]
      have sv : (wS z v).length ≤ sizeLine := by rw [wS_len]; exact szv
      have sw : (wS z w).length ≤ sizeLine := by rw [wS_len]; exact szw
      refine ⟨sv, sw, ?_⟩
      by_cases hab : a = b
      · subst hab
        rw [if_pos rfl]
        exact k1 _ ⟨⟨_, rfl⟩, by rw [take_snoc h1, take_snoc h2, ht]⟩
      · rw [if_neg (fun q => hab (cz_inj nd ha1 ha2 q))]
        refine ⟨sv, Array.mem_toList_iff.mp (idx_mem ha1), sw, Array.mem_toList_iff.mp (idx_mem ha2), ?_⟩
        rw [idx_at nd ha1, idx_at nd ha2, decide_eq_true (lt_first hl hlt ht h1 h2 hab), k3, r1]
        exact h
    · rintro s ⟨⟨a3, rfl⟩, ht⟩
      rw [List.take_length, hl, List.take_length] at ht
      rw [ht] at hlt
      exact absurd hlt (List.lt_irrefl _)
  · have hlt : v.length < w.length := by omega
    rw [if_neg (by omega)]
    refine ⟨szv, szw, ?_⟩
    rw [decide_eq_true hlt]
    exact h
end L01
namespace L01
open PySem PySem.Spec PyProof.Rows L2 DL
def W_T : DS := (wSeq (wSetO 12 (wLst wNil))
    (wSeq (wFor (wRng1 (wCons (wCallP 1 sp_pick (wCons (wC (.int 12)) wNil)) wNil)) (gNm 13) (wApp 12 (wJoin (wC (.str ("" : Str))) (wFz (wLc [16] (wRng1 (wCons (wCallP 1 sp_pick (wCons (wC (.int 4)) wNil)) wNil)) (gNm 16) wYes (wBin wIx (wVar 4) (wCallP 1 sp_pick (wCons (wCB (wN1 gLen) (wCons (wVar 4) wNil)) wNil))))))))
    (wSeq (wSet 14 (wCB (wN1 gList) (wCons (wVar 12) wNil)))
    (wSeq (wSet 15 (wCall sp_in_order (wCons (wVar 4) (wCons (wVar 14) wNil))))
    (wSeq (wIfS (wOr (wNot (wTru (wIsI "list" (wVar 15)))) (wOr (wTst (wBin (wEq true) (wVar 14) (wVar 12))) (wNot (wTru (wCB (wN1 gAll) (wCons (wFz (wLc [17] (wIt (wVar 15)) (gNm 17) wYes (wIsI "str" (wVar 17)))) wNil)))))) (wRet (wC (.bool false))) wNext)
    (wSeq (wIfS (wOr (wNot (wTru (wCB (wN1 gAll) (wCons (wFz (wLc [17] (wIt (wVar 12)) (gNm 17) wYes (wBin (wIn false) (wVar 17) (wVar 15)))) wNil)))) (wNot (wTru (wCB (wN1 gAll) (wCons (wFz (wLc [17] (wIt (wVar 15)) (gNm 17) wYes (wBin (wIn false) (wVar 17) (wVar 12)))) wNil))))) (wRet (wC (.bool false))) wNext)
    (wRet (wCB (wN1 gAll) (wCons (wFz (wLc [13] (wRng1 (wCons (wBin wSub (wCB (wN1 gLen) (wCons (wVar 15) wNil)) (wC (.int 1))) wNil)) (gNm 13) wYes (wCall sp_law_ahead (wCons (wVar 4) (wCons (wBin wIx (wVar 15) (wVar 13)) (wCons (wBin wIx (wVar 15) (wBin wAdd (wVar 13) (wC (.int 1)))) wNil)))))) wNil)))))))))
def W_I : DS := (wIfS (wTst (wBin wGt (wVar 5) (wC (.int 0)))) (wSeq (wSet 9 (wBin wMod (wCB (wN1 gInt) (wCons (wBin wAdd (wBin wMul (wCallP 1 sp_pick (wCons (wC (.int 60)) wNil)) (wC (.int 60))) (wCallP 1 sp_pick (wCons (wC (.int 60)) wNil))) wNil)) (wVar 5)))
    (wSeq (wSet 10 (wBin wIx (wFz (wLc [18] (wIt (wC (.str ("abcdefgA0 -" : Str)))) (gNm 18) (wTst (wBin (wIn true) (wVar 18) (wVar 4))) (wVar 18))) (wCallP 1 sp_pick (wCons (wC (.int 5)) wNil))))
    (wSeq (wSet 11 (wBin wAdd (wBin wAdd (wSl (wVar 6) wNoP (wPart (wVar 9))) (wVar 10)) (wSl (wVar 6) (wPart (wBin wAdd (wVar 9) (wC (.int 1)))) wNoP)))
    (wIfS (wOr (wTst (wBin (wEq true) (wCall sp_law_told (wCons (wVar 4) (wCons (wVar 11) (wCons (wC .none) wNil)))) (wTup (wCons (wC (.str ("word" : Str))) (wCons (wVar 9) wNil))))) (wTst (wBin (wEq true) (wCall sp_law_told (wCons (wVar 4) (wCons (wBin wAdd (wVar 11) (wVar 10)) (wCons (wVar 8) wNil)))) (wTup (wCons (wC (.str ("word" : Str))) (wCons (wVar 9) wNil)))))) (wRet (wC (.bool false))) wNext)))) wNext)
theorem law_cut : W_law = (wSeq (wSet 2 (wC (.str ("abcdefghijklmnopqrstuvwxyzAZ0 -_{" : Str))))
    (wSeq (wSet 3 (wJoin (wC (.str ("" : Str))) (wFz (wLc [13] (wRng1 (wCons (wCallP 1 sp_pick (wCons (wC (.int 9)) wNil)) wNil)) (gNm 13) wYes (wBin wIx (wVar 2) (wBin wMod (wCB (wN1 gInt) (wCons (wBin wAdd (wBin wMul (wCallP 1 sp_pick (wCons (wC (.int 60)) wNil)) (wC (.int 7))) (wVar 13)) wNil)) (wBin wIx (wFz (wLst (wCons (wC (.int 26)) (wCons (wC (.int 33)) wNil)))) (wCB (wN1 gInt) (wCons (wBin (wEq false) (wCallP 1 sp_pick (wCons (wC (.int 6)) wNil)) (wC (.int 0))) wNil)))))))))
    (wSeq (wIfS (wTst (wBin (wEq true) (wCall sp_law_checked (wCons (wVar 3) wNil)) (wCall sp_law_are_letters (wCons (wVar 3) wNil)))) (wRet (wC (.bool false))) wNext)
    (wSeq (wSet 4 (wCallP 1 sp_letters2 (wCons (wC (.int 6)) wNil)))
    (wSeq (wIfS (wOr (wNot (wTru (wCall sp_law_checked (wCons (wVar 4) wNil)))) (wTru (wCall sp_law_checked (wCons (wBin wAdd (wVar 4) (wBin wIx (wVar 4) (wC (.int 0)))) wNil)))) (wRet (wC (.bool false))) wNext)
    (wSeq (wSet 5 (wBin wIx (wFz (wLst (wCons (wCallP 1 sp_pick (wCons (wC (.int 12)) wNil)) (wCons (wBin wAdd (wC (.int 190)) (wCallP 1 sp_pick (wCons (wC (.int 21)) wNil))) wNil)))) (wCB (wN1 gInt) (wCons (wBin (wEq false) (wCallP 1 sp_pick (wCons (wC (.int 3)) wNil)) (wC (.int 0))) wNil))))
    (wSeq (wSet 6 (wJoin (wC (.str ("" : Str))) (wFz (wLc [13] (wRng1 (wCons (wVar 5) wNil)) (gNm 13) wYes (wBin wIx (wVar 4) (wCallP 1 sp_pick (wCons (wCB (wN1 gLen) (wCons (wVar 4) wNil)) wNil)))))))
    (wSeq (wSet 7 (wBin wIx (wFz (wLst (wCons (wTup (wCons (wC (.str ("good" : Str))) (wCons (wC (.int 0)) wNil))) (wCons (wTup (wCons (wC (.str ("size" : Str))) (wCons (wVar 5) wNil))) wNil)))) (wCB (wN1 gInt) (wCons (wBin wGt (wVar 5) (wC (.int 200))) wNil))))
    (wSeq (wSet 8 (wCallP 1 sp_pick (wCons (wC (.int 15)) wNil)))
    (wSeq (wIfS (wOr (wTst (wBin (wEq true) (wCall sp_law_told (wCons (wVar 4) (wCons (wVar 6) (wCons (wC .none) wNil)))) (wVar 7))) (wTst (wBin (wEq true) (wCall sp_law_told (wCons (wVar 4) (wCons (wVar 6) (wCons (wVar 8) wNil)))) (wBin wIx (wFz (wLst (wCons (wTup (wCons (wC (.str ("good" : Str))) (wCons (wC (.int 0)) wNil))) (wCons (wTup (wCons (wC (.str ("size" : Str))) (wCons (wVar 5) wNil))) wNil)))) (wCB (wN1 gInt) (wCons (wBin wGt (wVar 5) (wVar 8)) wNil)))))) (wRet (wC (.bool false))) wNext)
    (wSeq W_I
    W_T))))))))))) := rfl
theorem join_wS (z : Str) (l : List Nat) : Txt.join (Str.ofString "") (l.map fun a => sg (cz z a)) = wS z l := by
  have h := join_signs (l.map fun a => cz z a)
  rw [List.map_map] at h
  have e : (Txt.join (Str.ofString "") (l.map fun a => sg (cz z a))).cps = (wS z l).cps := by
    apply Array.toList_inj.mp
    exact h
  cases hx : Txt.join (Str.ofString "") (l.map fun a => sg (cz z a)) with
  | mk c =>
    rw [hx] at e
    cases hy : wS z l with
    | mk d =>
      rw [hy] at e
      exact congrArg Str.mk e
theorem at_let {z : Str} {a : Nat} (ha : a < z.length) : atI z.cps.toList (a : Int) = some (cz z a) := by
  rw [DL.atI_nat (by rw [Array.length_toList]; exact ha)]
  unfold cz
  rw [List.getD_eq_getElem?_getD, List.getElem?_eq_getElem (by rw [Array.length_toList]; exact ha)]
  rfl
theorem join_go {z : Str} {xs : List PyData} {c : Nat} (hl : xs.length = c) (hc : c ≤ 4000) (h : ∀ x, x ∈ xs → ∃ a : Nat, a < z.length ∧ x = .str (sg (cz z a))) : ∃ w : List Nat, w.length = c ∧ (∀ a, a ∈ w → a < z.length) ∧
    ∀ Φ : PyData → Prop, Φ (.str (wS z w)) → ∃ ys : List Str, PyData.list xs = .list (ys.map .str) ∧ (ys.map fun x => x.length).sum + ys.length * (Str.ofString "").length ≤ 16777216 ∧ Φ (.str (Txt.join (Str.ofString "") ys)) := by
  obtain ⟨f, e, hf⟩ := mkL_of (c := fun a : Nat => PyData.str (sg (cz z a))) (Q := fun a => a < z.length) h
  rw [hl] at e hf
  refine ⟨(List.range c).map f, by simp, fun a ha => ?_, fun Φ k => ⟨((List.range c).map f).map fun a => sg (cz z a), ?_, ?_, ?_⟩⟩
  · obtain ⟨i, hi, rfl⟩ := List.mem_map.mp ha
    exact hf i (List.mem_range.mp hi)
  · rw [e]
    simp [mkL]
  · rw [empty_len, Nat.mul_zero, Nat.add_zero, List.map_map]
    refine Nat.le_trans (sum_le (m := 1) fun a h => ?_) (by simp; omega)
    obtain ⟨b, _, rfl⟩ := List.mem_map.mp h
    exact Nat.le_refl _
  · rw [join_wS]
    exact k
theorem lay_str {w : Str} (h : ∀ c, c ∈ w.cps.toList → c < 1114112) : PyData.canLay0 (.str w) = true := by
  simp [PyData.canLay0, PyData.strOk]
  intro i hi
  exact h _ (by simp)
theorem lay_all {xs : List PyData} (h : ∀ x, x ∈ xs → PyData.canLay0 x = true) : PyData.canLayAll0 xs = true := by
  induction xs with
  | nil => rfl
  | cons x xs ih =>
    show (PyData.canLay0 x && PyData.canLayAll0 xs) = true
    rw [h x List.mem_cons_self, ih fun y hy => h y (List.mem_cons_of_mem _ hy)]
    rfl
theorem dep_all {xs : List PyData} {n : Nat} (h : ∀ x, x ∈ xs → x.depth ≤ n) : PyData.depthAll xs ≤ n := by
  induction xs with
  | nil => simp [PyData.depthAll]
  | cons x xs ih =>
    have h1 := h x List.mem_cons_self
    have h2 := ih fun y hy => h y (List.mem_cons_of_mem _ hy)
    simp only [PyData.depthAll]
    omega
theorem shaped_of {xs : List PyData} (h : ∀ x, x ∈ xs → PyData.canLay0 x = true ∧ x.depth ≤ 2) : SeqAt.shaped (.list xs) = true := by
  unfold SeqAt.shaped
  have h1 : PyData.canLay0 (.list xs) = true := lay_all fun x hx => (h x hx).1
  rw [h1, Bool.true_and, decide_eq_true_eq]
  have h2 := dep_all (n := 2) fun x hx => (h x hx).2
  have h3 : (PyData.list xs).depth ≤ 1 + PyData.depthAll xs := by
    simp only [PyData.depth]
    omega
  omega
theorem gAll_true {α : Type} (l : List α) {Ψ : PyData → Prop} (h : Ψ (.bool true)) : gAll (.list (l.map fun _ => .bool true)) Ψ := ⟨l.map fun _ => true, by rw [List.map_map]; rfl, by
  have e : (l.map fun _ => true).all id = true := by
    rw [List.all_eq_true]
    intro b hb
    obtain ⟨_, _, rfl⟩ := List.mem_map.mp hb
    rfl
  rw [e]
  exact h⟩
theorem lay_word {z : Str} (az : ∀ c, c ∈ z.cps.toList → 97 ≤ c ∧ c ≤ 122) {w : List Nat} (hw : ∀ a, a ∈ w → a < z.length) : PyData.canLay0 (wdD z w) = true := lay_str fun c hc => by
  unfold wS at hc
  rw [List.toList_toArray] at hc
  obtain ⟨a, ha, rfl⟩ := List.mem_map.mp hc
  have := az _ (idx_mem (hw a ha))
  omega
theorem lay_words {z : Str} (az : ∀ c, c ∈ z.cps.toList → 97 ≤ c ∧ c ≤ 122) {L : List (List Nat)} (hw : ∀ w, w ∈ L → w.length ≤ 60 ∧ ∀ a, a ∈ w → a < z.length) : SeqAt.shaped (.list (L.map (wdD z))) = true ∧ PyData.eqv (.list (L.map (wdD z))) (.list (L.map (wdD z))) = true := by
  have h1 : ∀ x, x ∈ L.map (wdD z) → PyData.canLay0 x = true ∧ x.depth ≤ 2 := fun x hx => by
    obtain ⟨w, h, rfl⟩ := List.mem_map.mp hx
    exact ⟨lay_word az (hw w h).2, by simp [wdD, PyData.depth]⟩
  exact ⟨shaped_of h1, SeqAt.eqv_refl _ (lay_all fun x hx => (h1 x hx).1)⟩
theorem in_words {z : Str} {L : List (List Nat)} {w : List Nat} (h : w ∈ L) : inF (wdD z w) (L.map (wdD z)) = true := by
  unfold inF
  rw [List.any_eq_true]
  exact ⟨_, List.mem_map.mpr ⟨w, h, rfl⟩, by simp [wdD, eqF]⟩
theorem flat_words {z : Str} (L : List (List Nat)) : (L.map (wdD z)).all DL.flatD = true := by
  rw [List.all_eq_true]
  intro x hx
  obtain ⟨w, _, rfl⟩ := List.mem_map.mp hx
  rfl
theorem w_T {z : Str} (az : ∀ c, c ∈ z.cps.toList → 97 ≤ c ∧ c ≤ 122) (h1 : 1 ≤ z.length) (h6 : z.length ≤ 6) (nd : z.cps.toList.Nodup) {ns q : List Int} {a2 a3 a5 a6 a7 a8 a9 a10 a11 : Sl} (hq : PoolOk q) : W_T endTrue ⟨[.sc ns, .pl, a2, a3, .d (.str z), a5, a6, a7, a8, a9, a10, a11, .un, .un, .un, .un, .un, .un, .un], q⟩ := by
  have sz : ∀ {n : Nat}, n ≤ 1000 → n ≤ sizeLine := fun h => sz_le (by omega)
  have szz : z.length ≤ sizeLine := sz (by omega)
  unfold W_T
  refine seq_go fun Ψ p1 p2 k => ?_
  simp
  refine k _ ?_
  clear k p1 p2 Ψ
  refine seq_go fun Ψ p1 p2 k => ?_
  simp
  refine pick_go (by omega) hq fun c q1 hq1 hc _ => ?_
  refine ⟨by simp only [small62]; omega, ?_⟩
  refine loop_rng (fun i s => ∃ (L : List (List Nat)) (a13 : Sl) (q' : List Int), s = ⟨[.sc ns, .pl, a2, a3, .d (.str z), a5, a6, a7, a8, a9, a10, a11, .o (L.map (wdD z)), a13, .un, .un, .un, .un, .un], q'⟩ ∧ (a13 = .un ∨ ∃ d, a13 = .d d) ∧ PoolOk q' ∧ L.length = i ∧ ∀ w, w ∈ L → w.length ≤ 60 ∧ ∀ a, a ∈ w → a < z.length) ⟨[], _, _, rfl, .inl rfl, hq1, rfl, fun w hw => by cases hw⟩ ?_ ?_
  · rintro i s hi ⟨L, a13, q', rfl, ha13, hq', hL, hw⟩ Ψ' k1 k2 k3 k4 k5
    simp
    refine pick_go (by omega) hq' fun m q3 hq3 hm _ => ?_
    dsimp only
    refine ⟨by simp only [small62]; omega, ?_⟩
    refine lc_predE (P := fun y => ∃ a : Nat, a < z.length ∧ y = .str (sg (cz z a))) _ hq3 (by rw [rangeD_len]; omega) (fun x q4 hx hq4 Θ kΘ => ?_) fun ys q4 hq4 hl hy => ?_
    · simp
      refine ⟨szz, pick_go (by omega) hq4 fun u q5 hq5 hu _ => ?_⟩
      have hu : u < z.length := by omega
      simp only [at_let hu]
      exact ⟨szz, kΘ _ _ _ rfl hq5 ⟨u, hu, rfl⟩⟩
    · rw [rangeD_len] at hl
      obtain ⟨w, hw1, hw2, hw3⟩ := join_go (z := z) hl (by omega) hy
      obtain ⟨ys', e1, e2, e3⟩ := hw3 (fun x => x = .str (wS z w)) rfl
      injection e1 with e1
      refine ⟨ys', e1, e2, sz_lt (by omega), k1 _ ⟨L ++ [w], .d (.int (i : Nat)), q4, ?_, .inr ⟨_, rfl⟩, hq4, by rw [List.length_append, hL]; rfl, fun v hv => ?_⟩⟩
      · rw [e3, List.map_append]
        rfl
      · rcases List.mem_append.mp hv with a | a
        · exact hw v a
        · rw [List.mem_singleton.mp a]
          exact ⟨by omega, hw2⟩
  · rintro s ⟨L, a13, q2, rfl, ha13, hq2, hL, hw⟩
    refine k _ ?_
    clear k p1 p2 Ψ
    have hL : L.length ≤ 60 := by omega
    refine seq_go fun Ψ p1 p2 k => ?_
    simp
    refine k _ ?_
    clear k p1 p2 Ψ
    refine seq_go fun Ψ p1 p2 k => ?_
    simp
    refine ⟨z, L, rfl, h6, nd, ⟨hL, hw⟩, fun R hR lR sR => k _ ?_⟩
    clear k p1 p2 Ψ
    refine seq_go fun Ψ p1 p2 k => ?_
    have kl : kitB "list" "list" = some true := by decide +kernel
    simp [kl, -List.map_map]
    obtain ⟨sh, ev⟩ := lay_words az hw
    refine ⟨⟨sh, sh⟩, ?_⟩
    rw [if_pos ev]
    have ks : kitB "str" "str" = some true := by decide +kernel
    refine lc_mapl R (wdD z) (fun _ => .bool true) (by omega) (fun w hwR Θ kΘ => ?_) ?_
    · simp [wdD, ks]
      exact kΘ _ _ rfl rfl
    refine gAll_true R ?_
    show (if true = true then Ψ.nx _ else _)
    rw [if_pos rfl]
    refine k _ ?_
    clear k p1 p2 Ψ
    refine seq_go fun Ψ p1 p2 k => ?_
    simp [-List.map_map]
    have fl : ∀ M : List (List Nat), (M.map (wdD z)).all DL.flatD = true := flat_words
    refine lc_mapl L (wdD z) (fun _ => .bool true) (by omega) (fun w hwL Θ kΘ => ?_) ?_
    · simp [-List.all_map]
      rw [in_words ((hR w).mpr hwL)]
      refine ⟨⟨rfl, by simpa using fl R⟩, kΘ _ _ rfl rfl⟩
    refine gAll_true L ?_
    show (if true = true then _ else _)
    rw [if_pos rfl]
    refine lc_mapl R (wdD z) (fun _ => .bool true) (by omega) (fun w hwR Θ kΘ => ?_) ?_
    · simp [-List.all_map]
      rw [in_words ((hR w).mp hwR)]
      refine ⟨⟨rfl, by simpa using fl L⟩, kΘ _ _ rfl rfl⟩
    refine gAll_true R ?_
    show (if true = true then Ψ.nx _ else _)
    rw [if_pos rfl]
    refine k _ ?_
    clear k p1 p2 Ψ
    simp [-List.map_map]
    refine ⟨by simp only [small62]; omega, by rcases ha13 with rfl | ⟨d, rfl⟩ <;> rfl, ?_⟩
    refine lc_rng (fun _ => .bool true) (by omega) (fun i hi Θ kΘ => ?_) ?_
    · have hi1 : i + 1 < R.length := by omega
      have e1 : atI (R.map (wdD z)) (i : Int) = some (wdD z (R[i]'(by omega))) := by
        rw [DL.atI_nat (by rw [List.length_map]; omega), List.getElem?_map, List.getElem?_eq_getElem (by omega)]
        rfl
      have e2 : atI (R.map (wdD z)) ((i : Int) + 1) = some (wdD z (R[i + 1]'hi1)) := by
        rw [show (i : Int) + 1 = ((i + 1 : Nat) : Int) by omega, DL.atI_nat (by rw [List.length_map]; omega), List.getElem?_map, List.getElem?_eq_getElem hi1]
        rfl
      have ah := List.pairwise_iff_getElem.mp sR i (i + 1) (by omega) hi1 (by omega)
      have m1 := hw _ ((hR _).mp (List.getElem_mem (show i < R.length by omega)))
      have m2 := hw _ ((hR _).mp (List.getElem_mem hi1))
      simp
      simp only [e1, e2]
      exact ⟨z, _, _, rfl, h6, nd, m1.1, m2.1, m1.2, m2.2, ah, kΘ _ _ rfl rfl⟩
    · exact gAll_true (List.range _) rfl
end L01
namespace L01
open PySem PySem.Spec PyProof.Rows L2 DL
theorem bad_first {Z : List Nat} : ∀ (l1 l2 : List Nat) (c : Nat), (∀ x, x ∈ l1 → x ∈ Z) → c ∉ Z → (l1 ++ c :: l2).findIdx? (fun c => !decide (c ∈ Z)) = some l1.length
  | [], l2, c, _, h => by
    rw [List.nil_append, List.findIdx?_cons, if_pos (by rw [decide_eq_false h]; rfl)]
    rfl
  | x :: l1, l2, c, h1, h => by
    rw [List.cons_append, List.findIdx?_cons, if_neg (by rw [decide_eq_true (h1 x List.mem_cons_self)]; decide), bad_first l1 l2 c (fun y hy => h1 y (List.mem_cons_of_mem _ hy)) h]
    rfl
theorem wS_list (z : Str) (w : List Nat) : (wS z w).cps.toList = w.map fun a => cz z a := by unfold wS; rw [List.toList_toArray]
theorem app_list (a b : Str) : (a ++ b).cps.toList = a.cps.toList ++ b.cps.toList := by
  show (a.cps ++ b.cps).toList = _
  rw [Array.toList_append]
theorem cutS_drop (t : Str) {i : Nat} (h : i ≤ t.length) : (cutS t (some (i : Int)) none).cps.toList = t.cps.toList.drop i := by
  unfold cutS HT.sIx
  simp only
  rw [if_neg (by omega)]
  show (List.take (t.length - min (i : Int).toNat t.length) (List.drop (min (i : Int).toNat t.length) t.cps.toList)).toArray.toList = _
  rw [Int.toNat_natCast, Nat.min_eq_left h, List.toList_toArray, List.take_of_length_le]
  rw [List.length_drop, Array.length_toList]
  exact Nat.le_refl _
theorem len_list (t : Str) : t.length = t.cps.toList.length := Array.length_toList.symm
theorem az_letters {z : Str} (h1 : 1 ≤ z.length) (h6 : z.length ≤ 6) (az : ∀ c, c ∈ z.cps.toList → 97 ≤ c ∧ c ≤ 122) (nd : z.cps.toList.Nodup) : azOk z = true := by
  unfold azOk
  rw [decide_eq_true h1, decide_eq_true h6, decide_eq_true nd]
  simp only [Bool.true_and, Bool.and_true, List.all_eq_true]
  intro c hc
  have := az c hc
  rw [decide_eq_true this.1, decide_eq_true this.2]
  rfl
theorem az_dup {z : Str} (h1 : 1 ≤ z.length) : azOk (z ++ sg (cz z 0)) = false := by
  unfold azOk
  have e : (z ++ sg (cz z 0)).cps.toList = z.cps.toList ++ [cz z 0] := app_list _ _
  have : ¬ (z ++ sg (cz z 0)).cps.toList.Nodup := fun h => by
    rw [e, List.nodup_append] at h
    exact h.2.2 _ (idx_mem h1) _ List.mem_cons_self rfl
  rw [decide_eq_false this, Bool.and_false]
/-- what told is, compared -/
theorem pair_sh (s : Str) (n : Int) (h : ∀ c, c ∈ s.cps.toList → c < 1114112) : SeqAt.shaped (.tuple [.str s, .int n]) = true ∧ PyData.eqv (.tuple [.str s, .int n]) (.tuple [.str s, .int n]) = true := by
  have h1 := lay_str h
  have h2 : PyData.canLay0 (.tuple [.str s, .int n]) = true := by
    show (PyData.canLay0 (.str s) && (PyData.canLay0 (.int n) && true)) = true
    rw [h1]
    rfl
  refine ⟨?_, SeqAt.eqv_refl _ h2⟩
  unfold SeqAt.shaped
  rw [h2, Bool.true_and, decide_eq_true_eq]
  simp [PyData.depth, PyData.depthAll]
theorem bool_sh (b : Bool) : SeqAt.shaped (.bool b) = true ∧ PyData.eqv (.bool b) (.bool b) = true := by
  cases b <;> decide +kernel
theorem told_sh (z w : Str) (m : Int) : SeqAt.shaped (toldD z w m) = true ∧ PyData.eqv (toldD z w m) (toldD z w m) = true := by
  unfold toldD
  split
  · exact pair_sh _ _ (by decide +kernel)
  · split
    · exact pair_sh _ _ (by decide +kernel)
    · exact pair_sh _ _ (by decide +kernel)
theorem badAt_good {z : Str} {w : List Nat} (hw : ∀ a, a ∈ w → a < z.length) : badAt z (wS z w) = none := by
  unfold badAt
  rw [List.findIdx?_eq_none_iff, wS_list]
  intro c hc
  obtain ⟨a, ha, rfl⟩ := List.mem_map.mp hc
  rw [decide_eq_true (idx_mem (hw a ha))]
  rfl
def oddL : List Nat := (Str.ofString "abcdefgA0 -").cps.toList
theorem filt_le : ∀ (L Z : List Nat), L.Nodup → (L.filter fun c => decide (c ∈ Z)).length ≤ Z.length
  | [], Z, _ => Nat.zero_le _
  | a :: L, Z, h => by
    have h2 := List.nodup_cons.mp h
    by_cases ha : a ∈ Z
    · have ih := filt_le L (Z.erase a) h2.2
      rw [List.filter_cons, if_pos (decide_eq_true ha), List.length_cons]
      have e : (L.filter fun c => decide (c ∈ Z)) = L.filter fun c => decide (c ∈ Z.erase a) := List.filter_congr fun x hx => decide_eq_decide.mpr (List.mem_erase_of_ne (fun z => h2.1 (by rw [← z]; exact hx))).symm
      rw [e]
      have := List.length_erase_of_mem ha
      have := List.length_pos_of_mem ha
      omega
    · rw [List.filter_cons, if_neg (by simpa using ha)]
      exact filt_le L Z h2.2
theorem filt_ge (L Z : List Nat) (h : L.Nodup) : L.length ≤ (L.filter fun c => !decide (c ∈ Z)).length + Z.length := by
  have h1 := filt_le L Z h
  have h2 : L.length = (L.filter fun c => decide (c ∈ Z)).length + (L.filter fun c => !decide (c ∈ Z)).length := by
    clear h h1
    induction L with
    | nil => rfl
    | cons a L ih =>
      by_cases ha : a ∈ Z
      · simp [ha] at ih ⊢
        omega
      · simp [ha] at ih ⊢
        omega
  omega
theorem w_I {z : Str} (h1 : 1 ≤ z.length) (h6 : z.length ≤ 6) {ns q : List Int} {a2 a3 a7 : Sl} {w : List Nat} {m : Nat} (hm : m ≤ 60) (hw : ∀ a, a ∈ w → a < z.length) (lw : w.length ≤ 220) (hq : PoolOk q) {Ψ : EN}
    (k : ∀ a9 a10 a11 q', PoolOk q' → Ψ.nx ⟨[.sc ns, .pl, a2, a3, .d (.str z), .d (.int (w.length : Nat)), .d (.str (wS z w)), a7, .d (.int (m : Nat)), a9, a10, a11, .un, .un, .un, .un, .un, .un, .un], q'⟩) :
    W_I Ψ ⟨[.sc ns, .pl, a2, a3, .d (.str z), .d (.int (w.length : Nat)), .d (.str (wS z w)), a7, .d (.int (m : Nat)), .un, .un, .un, .un, .un, .un, .un, .un, .un, .un], q⟩ := by
  have sz : ∀ {n : Nat}, n ≤ 1000 → n ≤ sizeLine := fun h => sz_le (by omega)
  unfold W_I
  simp
  have szw : (wS z w).length ≤ sizeLine := sz (by rw [wS_len]; omega)
  by_cases h0 : 0 < w.length
  · rw [if_pos h0]
    refine pick_go (by omega) hq fun a q1 hq1 ha _ => ?_
    dsimp only
    refine ⟨.inr ⟨by omega, by omega⟩, pick_go (by omega) hq1 fun b q2 hq2 hb _ => ?_⟩
    dsimp only
    have eat : ((a : Int) * 60 + (b : Int)) % (w.length : Int) = (((a * 60 + b) % w.length : Nat) : Int) := by
      rw [show ((a : Int) * 60 + (b : Int)) = ((a * 60 + b : Nat) : Int) by omega]
      rfl
    have hat := Nat.mod_lt (a * 60 + b) h0
    rw [eat]
    generalize (a * 60 + b) % w.length = at' at hat
    refine ⟨h0, ?_⟩
    refine lc_fml oddL _ (fun c => .str ⟨#[c]⟩) (fun c => !decide (c ∈ z.cps.toList)) (by decide) (fun c hc Y N kY kN => ?_) ?_
    · simp
      split
      · rename_i hz
        exact kN (by simpa using hz) _ rfl
      · rename_i hz
        exact kY (by simpa using hz) _ _ rfl rfl
    · refine pick_go (by omega) hq2 fun o q3 hq3 ho _ => ?_
      have hol : o < (oddL.filter fun c => !decide (c ∈ z.cps.toList)).length := by
        have h1 := filt_ge oddL z.cps.toList (by decide)
        have h2 : oddL.length = 11 := by decide
        have h3 : z.cps.toList.length = z.length := by rw [Array.length_toList]; rfl
        omega
      have hmem := List.getElem_mem hol
      generalize hc : (oddL.filter fun c => !decide (c ∈ z.cps.toList))[o] = c at hmem
      have e0 : atI ((oddL.filter fun c => !decide (c ∈ z.cps.toList)).map fun c => PyData.str ⟨#[c]⟩) (o : Int) = some (.str ⟨#[c]⟩) := by
        rw [DL.atI_nat (by rw [List.length_map]; exact hol), List.getElem?_map, List.getElem?_eq_getElem hol, hc]
        rfl
      obtain ⟨m1, m2⟩ := List.mem_filter.mp hmem
      have hcz : c ∉ z.cps.toList := by simpa using m2
      dsimp only
      rw [e0]
      dsimp only
      have ew : (wS z w).length = w.length := wS_len z w
      have c1 := cutS_take (wS z w) (i := at') (by omega)
      have c2 : (cutS (wS z w) (some ((at' : Int) + 1)) none).cps.toList = (wS z w).cps.toList.drop (at' + 1) := by
        rw [show (at' : Int) + 1 = ((at' + 1 : Nat) : Int) by omega]
        exact cutS_drop (wS z w) (by omega)
      generalize cutS (wS z w) none (some (at' : Int)) = A at c1
      generalize cutS (wS z w) (some ((at' : Int) + 1)) none = B at c2
      rw [wS_list, ← List.map_take] at c1
      rw [wS_list, ← List.map_drop] at c2
      have lA : A.length = at' := by rw [len_list, c1, List.length_map, List.length_take]; omega
      have lB : B.length + at' + 1 = w.length := by rw [len_list, c2, List.length_map, List.length_drop]; omega
      have lC : ((⟨#[c]⟩ : Str)).length = 1 := rfl
      have la : ∀ x y : Str, (x ++ y).length = x.length + y.length := fun x y => by rw [len_list, app_list, List.length_append, ← len_list, ← len_list]
      have bad : ∀ t : Str, badAt z (A ++ ⟨#[c]⟩ ++ B ++ t) = some at' := fun t => by
        unfold badAt
        have e : (A ++ ⟨#[c]⟩ ++ B ++ t).cps.toList = A.cps.toList ++ c :: (B.cps.toList ++ t.cps.toList) := by
          rw [app_list, app_list, app_list, List.append_assoc, List.append_assoc]
          rfl
        rw [e, bad_first _ _ c (fun x hx => ?_) hcz, ← len_list, lA]
        rw [c1] at hx
        obtain ⟨u, hu, rfl⟩ := List.mem_map.mp hx
        exact idx_mem (hw u (List.mem_of_mem_take hu))
      have bad0 : badAt z (A ++ ⟨#[c]⟩ ++ B) = some at' := by
        have := bad ⟨#[]⟩
        have e : A ++ ⟨#[c]⟩ ++ B ++ ⟨#[]⟩ = A ++ ⟨#[c]⟩ ++ B := by
          show (⟨_ ++ #[]⟩ : Str) = _
          rw [Array.append_empty]
        rwa [e] at this
      have td : ∀ (t : Str) (m : Int), badAt z t = some at' → toldD z t m = .tuple [.str "word", .int (at' : Nat)] := fun t m h => by
        unfold toldD
        rw [h]
      have sh := pair_sh "word" (at' : Nat) (by decide +kernel)
      refine ⟨szw, sz (by omega), szw, sz (by rw [la]; omega), ⟨z, _, by omega, by rw [la, la]; omega, .inl ⟨rfl, ?_⟩⟩⟩
      rw [td _ _ bad0]
      refine ⟨sz (by decide), ⟨sh.1, sh.1⟩, ?_⟩
      rw [if_pos sh.2]
      refine ⟨sz (by rw [la, la]; omega), ⟨z, _, by omega, by rw [la, la, la]; omega, .inr ⟨(m : Nat), rfl, ?_⟩⟩⟩
      rw [td _ _ (bad _)]
      refine ⟨sz (by decide), ⟨sh.1, sh.1⟩, ?_⟩
      rw [if_pos sh.2]
      exact k _ _ _ _ hq3
  · rw [if_neg h0]
    exact k _ _ _ _ hq
end L01
namespace L01
open PySem PySem.Spec PyProof.Rows L2 DL
def SG : Str := "abcdefghijklmnopqrstuvwxyzAZ0 -_{"
theorem sg_len : SG.length = 33 := by decide +kernel
theorem sg_at {j : Nat} (h : j < 33) : ∃ c, atI SG.cps.toList (j : Int) = some c := by
  have e : SG.cps.toList.length = 33 := by rw [Array.length_toList]; exact sg_len
  exact ⟨_, by rw [DL.atI_nat (by rw [e]; exact h)]; exact List.getElem?_eq_getElem (by rw [e]; exact h)⟩
/-- signs joined to a text -/
theorem text_go {xs : List PyData} {c : Nat} (hl : xs.length = c) (hc : c ≤ 4000) (h : ∀ x, x ∈ xs → ∃ a : Nat, x = .str (sg a)) : ∃ (t : Str) (ys : List Str), t.length = c ∧ xs = ys.map .str ∧ (ys.map fun x => x.length).sum + ys.length * (Str.ofString "").length ≤ 16777216 ∧ Txt.join (Str.ofString "") ys = t := by
  obtain ⟨f, e, hf⟩ := mkL_of (c := fun a : Nat => PyData.str (sg a)) (Q := fun _ => True) (fun x hx => let ⟨a, e⟩ := h x hx; ⟨a, trivial, e⟩)
  rw [hl] at e
  refine ⟨_, ((List.range c).map f).map sg, ?_, ?_, ?_, rfl⟩
  · rw [len_list, join_signs]
    simp
  · rw [e]
    simp [mkL]
  · rw [empty_len, Nat.mul_zero, Nat.add_zero, List.map_map]
    refine Nat.le_trans (sum_le (m := 1) fun a h => ?_) (by simp; omega)
    obtain ⟨b, _, rfl⟩ := List.mem_map.mp h
    exact Nat.le_refl _
theorem told_tup (z w : Str) (m : Int) : ∃ xs, toldD z w m = .tuple xs := by
  unfold toldD
  split
  · exact ⟨_, rfl⟩
  · split
    · exact ⟨_, rfl⟩
    · exact ⟨_, rfl⟩
theorem due_at {z : Str} {w : List Nat} (hw : ∀ a, a ∈ w → a < z.length) (m : Int) : atI [PyData.tuple [.str ("good" : Str), .int 0], PyData.tuple [.str ("size" : Str), .int (w.length : Nat)]] (if m < (w.length : Int) then 1 else 0) = some (toldD z (wS z w) m) := by
  unfold toldD
  rw [badAt_good hw, wS_len]
  by_cases h : m < (w.length : Int)
  · simp only [if_pos h, if_pos (show (w.length : Int) > m from h)]
    rfl
  · simp only [if_neg h, if_neg (show ¬ (w.length : Int) > m from h)]
    rfl
theorem w_law (ns q : List Int) (hq : PoolOk q) : W_law endTrue ⟨(startE ["script", "pool", "signs", "text", "letters", "length", "word", "due", "most", "at", "odd", "wrong", "words", "k", "handed", "told", "n", "one", "sign"] [.sc ns]).set 1 .pl, q⟩ := by
  show W_law endTrue ⟨[.sc ns, .pl, .un, .un, .un, .un, .un, .un, .un, .un, .un, .un, .un, .un, .un, .un, .un, .un, .un], q⟩
  have sz : ∀ {n : Nat}, n ≤ 1000 → n ≤ sizeLine := fun h => sz_le (by omega)
  rw [law_cut]
  refine seq_go fun Ψ p1 p2 k => ?_
  simp
  refine k _ ?_
  clear k p1 p2 Ψ
  refine seq_go fun Ψ p1 p2 k => ?_
  simp
  refine pick_go (by omega) hq fun n q1 hq1 hn _ => ?_
  dsimp only
  refine ⟨by simp only [small62]; omega, ?_⟩
  refine lc_predE (P := fun y => ∃ a : Nat, y = .str (sg a)) _ hq1 (by rw [rangeD_len]; omega) (fun x q2 hx hq2 Θ kΘ => ?_) fun ys q2 hq2 hl hy => ?_
  · obtain ⟨j, hj⟩ := List.mem_iff_getElem?.mp hx
    obtain ⟨_, rfl⟩ := rangeD_get hj
    simp
    refine pick_go (by omega) hq2 fun u q3 hq3 hu _ => ?_
    dsimp only
    refine ⟨.inr ⟨by omega, by omega⟩, sz (by decide), pick_go (by omega) hq3 fun v q4 hq4 hv _ => ?_⟩
    obtain ⟨M, hM, eM⟩ : ∃ M : Nat, (M = 26 ∨ M = 33) ∧ atI [PyData.int 26, PyData.int 33] (if (v : Int) = 0 then 1 else 0) = some (.int (M : Nat)) := by
      split
      · exact ⟨33, .inr rfl, rfl⟩
      · exact ⟨26, .inl rfl, rfl⟩
    dsimp only
    rw [eM]
    dsimp only
    have e : ((u : Int) * 7 + (j : Int)) % (M : Int) = (((u * 7 + j) % M : Nat) : Int) := by
      rw [show ((u : Int) * 7 + (j : Int)) = ((u * 7 + j : Nat) : Int) by omega]
      rfl
    have hlt := Nat.mod_lt (u * 7 + j) (show 0 < M by omega)
    obtain ⟨c, ec⟩ := sg_at (j := (u * 7 + j) % M) (by omega)
    rw [e]
    refine ⟨by omega, sz (by decide +kernel), ?_⟩
    have ec : atI (Str.ofString "abcdefghijklmnopqrstuvwxyzAZ0 -_{").cps.toList (((u * 7 + j) % M : Nat) : Int) = some c := ec
    rw [ec]
    exact kΘ _ _ _ rfl hq4 ⟨c, rfl⟩
  rw [rangeD_len] at hl
  obtain ⟨t, ys', lt, e1, e2, e3⟩ := text_go hl (by omega) hy
  refine ⟨ys', e1, e2, k _ ?_⟩
  rw [e3]
  clear k p1 p2 Ψ
  have lt : t.length ≤ 60 := by omega
  refine seq_go fun Ψ p1 p2 k => ?_
  simp
  refine ⟨t, rfl, lt, t, rfl, lt, ?_⟩
  have bs := bool_sh (azOk t)
  show eqD (.bool (azOk t)) (.bool (azOk t)) ∧ (if PyData.eqv (.bool (azOk t)) (.bool (azOk t)) = true then Ψ.nx _ else _)
  refine ⟨⟨bs.1, bs.1⟩, ?_⟩
  rw [if_pos bs.2]
  refine k _ ?_
  clear k p1 p2 Ψ
  generalize hSG : Str.ofString "abcdefghijklmnopqrstuvwxyzAZ0 -_{" = SG'
  clear hSG
  refine seq_go fun Ψ p1 p2 k => ?_
  simp
  refine ⟨6, rfl, by decide, by decide, hq2, fun z q3 hq3 hz nd => k _ ?_⟩
  clear k p1 p2 Ψ
  obtain ⟨z1, z6, az⟩ := hz
  have z6 : z.length ≤ 6 := by omega
  have szz : z.length ≤ sizeLine := sz (by omega)
  refine seq_go fun Ψ p1 p2 k => ?_
  simp
  refine ⟨z, rfl, by omega, ?_⟩
  rw [az_letters z1 z6 az nd]
  have e0 : atI z.cps.toList 0 = some (cz z 0) := at_let (a := 0) z1
  simp only [e0]
  have lz : (z ++ sg (cz z 0)).length = z.length + 1 := by
    rw [len_list, app_list, List.length_append, ← len_list]
    rfl
  rw [if_pos trivial]
  refine ⟨szz, sz (by show z.length + 1 ≤ 1000; omega), ⟨z ++ sg (cz z 0), rfl, by rw [lz]; omega, ?_⟩⟩
  rw [az_dup z1]
  show (if false = true then _ else Ψ.nx _)
  rw [if_neg Bool.false_ne_true]
  refine k _ ?_
  clear k p1 p2 Ψ e0
  refine seq_go fun Ψ p1 p2 k => ?_
  simp
  refine pick_go (by omega) hq3 fun a q4 hq4 ha _ => ?_
  refine pick_go (by omega) hq4 fun b q5 hq5 hb _ => ?_
  dsimp only
  refine ⟨sz (by decide), pick_go (by omega) hq5 fun c q6 hq6 hc _ => ?_⟩
  obtain ⟨len, hlen, eM⟩ : ∃ M : Nat, M ≤ 210 ∧ atI [PyData.int (a : Nat), PyData.int (190 + (b : Nat))] (if (c : Int) = 0 then 1 else 0) = some (.int (M : Nat)) := by
    split
    · exact ⟨190 + b, by omega, rfl⟩
    · exact ⟨a, by omega, rfl⟩
  dsimp only
  rw [eM]
  refine k _ ?_
  clear k p1 p2 Ψ eM
  refine seq_go fun Ψ p1 p2 k => ?_
  simp
  refine ⟨by simp only [small62]; omega, ?_⟩
  refine lc_predE (P := fun y => ∃ a : Nat, a < z.length ∧ y = .str (sg (cz z a))) _ hq6 (by rw [rangeD_len]; omega) (fun x q7 hx hq7 Θ kΘ => ?_) fun ys q7 hq7 hl hy => ?_
  · simp
    refine ⟨szz, pick_go (by omega) hq7 fun u q8 hq8 hu _ => ?_⟩
    have hu : u < z.length := by omega
    simp only [at_let hu]
    exact ⟨szz, kΘ _ _ _ rfl hq8 ⟨u, hu, rfl⟩⟩
  rw [rangeD_len] at hl
  obtain ⟨w, hw1, hw2, hw3⟩ := join_go (z := z) hl (by omega) hy
  obtain ⟨ys', e1, e2, e3⟩ := hw3 (fun x => x = .str (wS z w)) rfl
  injection e1 with e1
  injection e3 with e3
  refine ⟨ys', e1, e2, ?_⟩
  rw [e3]
  refine k _ ?_
  clear k p1 p2 Ψ
  subst hw1
  have due := due_at (z := z) hw2
  have lw : (wS z w).length ≤ 300 := by rw [wS_len]; omega
  refine seq_go fun Ψ p1 p2 k => ?_
  simp
  refine ⟨sz (by decide), ?_⟩
  rw [due 200]
  refine k _ ?_
  clear k p1 p2 Ψ
  refine seq_go fun Ψ p1 p2 k => ?_
  simp
  refine pick_go (by omega) hq7 fun m q8 hq8 hm _ => ?_
  refine k _ ?_
  clear k p1 p2 Ψ
  refine seq_go fun Ψ p1 p2 k => ?_
  simp
  refine ⟨z, _, by omega, lw, .inl ⟨rfl, ?_⟩⟩
  have t1 := told_sh z (wS z w) 200
  have t2 := told_sh z (wS z w) m
  have eqs : ∀ (d : PyData) (Q R : Prop), SeqAt.shaped d = true ∧ PyData.eqv d d = true → Q → eqD d d ∧ (if PyData.eqv d d = true then Q else R) := fun d Q R h q => ⟨⟨h.1, h.1⟩, by rw [if_pos h.2]; exact q⟩
  obtain ⟨x1, g1⟩ := told_tup z (wS z w) 200
  obtain ⟨x2, g2⟩ := told_tup z (wS z w) m
  have due2 : atI [PyData.tuple [.str ("good" : Str), .int 0], PyData.tuple [.str ("size" : Str), .int (w.length : Nat)]] (if m < w.length then 1 else 0) = some (toldD z (wS z w) m) := by
    have h := due (m : Nat)
    simp only [Int.ofNat_lt] at h
    exact h
  rw [g1] at t1 ⊢
  rw [g2] at t2 due2
  show eqD (.tuple x1) (.tuple x1) ∧ (if PyData.eqv (.tuple x1) (.tuple x1) = true then _ else _)
  refine eqs _ _ _ t1 ⟨z, _, by omega, lw, .inr ⟨(m : Nat), rfl, ?_⟩⟩
  rw [g2]
  refine ⟨sz (by decide), ?_⟩
  rw [due2]
  show eqD (.tuple x2) (.tuple x2) ∧ (if PyData.eqv (.tuple x2) (.tuple x2) = true then Ψ.nx _ else _)
  refine eqs _ _ _ t2 (k _ ?_)
  clear k p1 p2 Ψ
  refine seq_go fun Ψ p1 p2 k => ?_
  refine w_I z1 z6 (by omega) hw2 (by omega) hq8 fun a9 a10 a11 q9 hq9 => k _ ?_
  exact w_T az z1 z6 nd hq9
end L01
namespace L01
open PySem PySem.Spec PyProof.Rows L2 DL
section
variable {P : Program} {w : World} {K : PySem.W.Frag} {mg : Str → Option Value} {base : Heap} {k : Nat}
abbrev m_BadWord : Stmt := mt0 (topS 3)
theorem scm_BadWord : FnScope ["self", "place"] ["self", "place"] (defScope m_BadWord) := ⟨rfl, rfl, rfl, by decide +kernel, rfl, by decide +kernel, by decide +kernel⟩
theorem init_BadWord {fI B : Addr} {fd : FuncData} (F : Fun K "__init__" "BadWord.__init__" m_BadWord fI fd) (T : BaseC K B) (gB : mg "HallError" = some (.ref B)) : FnOk P w K mg base CX0 1 fI fd ["self", "place"] (spInit K 1 ["place"] (fun xs => [("place" : Str)].zip xs)) := by
  refine F.ok scm_BadWord (fun vs H Q E ⟨a, C, xs, e, l, _⟩ => by rw [e, List.length_cons, l]; rfl) fun cdv A outer s H vs Q E hr h => ⟨_, pss_cons (ps_expr (pe_heinit T (by rfl) gB (pa_cons (pv 0) (pa_cons (pe_joined (.cons pe_str (.cons (pe_fmt (pv 1)) .nil))) pa_nil)))) (pss_one (ps_ost (pv 0) (pv 1))), ?_⟩
  obtain ⟨a, C, xs, rfl, l, T1, hno, hf, ha, kk⟩ := h
  obtain ⟨x, rfl⟩ := List.length_eq_one_iff.mp l
  refine init1 T1 (hno _ (List.mem_cons_self ..)) (hf _ (List.mem_cons_self ..)) ha kk ?_ rfl rfl
  decide +kernel
theorem n_BadWord {h : Heap} {C B : Addr} (X : K.In h) (G : h.Ns mainGlobals mg) (a : PySem.W.nsIn K mainGlobals "BadWord" = some (some (.ref C))) (o : OexC K C) (no : PySem.W.findIn K (.ref C) "place" = some none) (I : InitK K C "BadWord.__init__" m_BadWord) (aB : PySem.W.nsIn K mainGlobals "HallError" = some (some (.ref B))) (T : BaseC K B) : ∀ base : Heap, ErN P w K mg base 1 "BadWord" 1 ["place"] (fun xs => [("place" : Str)].zip xs) := by
  intro base
  obtain ⟨fI, fd, ii, ti, F⟩ := I.ex
  refine erN_mk X G a o (fun f hf => ?_) ii ti (init_BadWord F T (PySem.W.mg_of X G aB)) (F.binds (fun _ _ _ _ _ _ us hl => match us, hl with | [_, _], _ => rfl))
  rw [List.mem_singleton.mp hf]
  exact no
abbrev m_BadSize : Stmt := mt0 (topS 4)
theorem scm_BadSize : FnScope ["self", "size"] ["self", "size"] (defScope m_BadSize) := ⟨rfl, rfl, rfl, by decide +kernel, rfl, by decide +kernel, by decide +kernel⟩
theorem init_BadSize {fI B : Addr} {fd : FuncData} (F : Fun K "__init__" "BadSize.__init__" m_BadSize fI fd) (T : BaseC K B) (gB : mg "HallError" = some (.ref B)) : FnOk P w K mg base CX0 1 fI fd ["self", "size"] (spInit K 1 ["size"] (fun xs => [("size" : Str)].zip xs)) := by
  refine F.ok scm_BadSize (fun vs H Q E ⟨a, C, xs, e, l, _⟩ => by rw [e, List.length_cons, l]; rfl) fun cdv A outer s H vs Q E hr h => ⟨_, pss_cons (ps_expr (pe_heinit T (by rfl) gB (pa_cons (pv 0) (pa_cons (pe_joined (.cons pe_str (.cons (pe_fmt (pv 1)) .nil))) pa_nil)))) (pss_one (ps_ost (pv 0) (pv 1))), ?_⟩
  obtain ⟨a, C, xs, rfl, l, T1, hno, hf, ha, kk⟩ := h
  obtain ⟨x, rfl⟩ := List.length_eq_one_iff.mp l
  refine init1 T1 (hno _ (List.mem_cons_self ..)) (hf _ (List.mem_cons_self ..)) ha kk ?_ rfl rfl
  decide +kernel
theorem n_BadSize {h : Heap} {C B : Addr} (X : K.In h) (G : h.Ns mainGlobals mg) (a : PySem.W.nsIn K mainGlobals "BadSize" = some (some (.ref C))) (o : OexC K C) (no : PySem.W.findIn K (.ref C) "size" = some none) (I : InitK K C "BadSize.__init__" m_BadSize) (aB : PySem.W.nsIn K mainGlobals "HallError" = some (some (.ref B))) (T : BaseC K B) : ∀ base : Heap, ErN P w K mg base 1 "BadSize" 1 ["size"] (fun xs => [("size" : Str)].zip xs) := by
  intro base
  obtain ⟨fI, fd, ii, ti, F⟩ := I.ex
  refine erN_mk X G a o (fun f hf => ?_) ii ti (init_BadSize F T (PySem.W.mg_of X G aB)) (F.binds (fun _ _ _ _ _ _ us hl => match us, hl with | [_, _], _ => rfl))
  rw [List.mem_singleton.mp hf]
  exact no
end
end L01
namespace L01
open PySem PySem.Spec PyProof.Rows L2 DL
section
variable {P : Program} {w : World} {K : PySem.W.Frag} {mg : Str → Option Value} {base h : Heap}

theorem ca__law_pool (X : K.In h) (G : h.Ns mainGlobals mg) (D : DefK K "_law_pool" s__law_pool) (B : Bi mg) : Ca P w K mg base 1 "_law_pool" ["script"] (spS K sp_pool) :=
  caS (k := 0) D X G sc__law_pool (fun _ _ _ _ _ _ us hl => match us, hl with | [_], _ => rfl) rfl
    fun f cdv A outer s H E g r => ⟨_, dv__law_pool B cdv A outer s H E g r, w_pool⟩
theorem ca__law_stream (X : K.In h) (G : h.Ns mainGlobals mg) (D : DefK K "_law_stream" s__law_stream) (c__law_pool : Ca P w K mg base 1 "_law_pool" ["script"] (spS K sp_pool)) : Ca P w K mg base 2 "_law_stream" ["script"] (spS K spStream) :=
  caS (k := 1) D X G sc__law_stream (fun _ _ _ _ _ _ us hl => match us, hl with | [_], _ => rfl) rfl
    fun f cdv A outer s H E g r => ⟨_, dv__law_stream c__law_pool cdv A outer s H E g r, w_stream⟩
theorem ca__law_pick (X : K.In h) (G : h.Ns mainGlobals mg) (D : DefK K "_law_pick" s__law_pick) (B : Bi mg) : Ca P w K mg base 1 "_law_pick" ["pool", "many"] (spP K sp_pick) :=
  caP (k := 0) D X G sc__law_pick (fun _ _ _ _ _ _ us hl => match us, hl with | [_, _], _ => rfl) (fun ds p Φ q => by first | (obtain ⟨rfl, _⟩ := q; rfl) | (obtain ⟨_, rfl, _⟩ := q; rfl) | (obtain ⟨_, _, rfl, _⟩ := q; rfl) | (obtain ⟨_, _, _, rfl, _⟩ := q; rfl) | (obtain ⟨_, _, _, _, rfl, _⟩ := q; rfl) | (obtain ⟨_, _, _, _, _, rfl, _⟩ := q; rfl) | (obtain ⟨_, _, _, _, _, _, rfl, _⟩ := q; rfl) | (obtain ⟨_, _, _, _, _, _, _, rfl, _⟩ := q; rfl) | (obtain ⟨_, _, _, _, _, _, _, _, rfl, _⟩ := q; rfl) | (obtain ⟨_, _, _, _, _, _, _, _, _, rfl, _⟩ := q; rfl) | (obtain ⟨_, _, _, _, _, _, _, _, _, _, rfl, _⟩ := q; rfl) | (obtain ⟨_, _, _, _, _, _, _, _, _, _, _, rfl, _⟩ := q; rfl))
    fun f cdv A outer s H E g r => ⟨_, dv__law_pick B cdv A outer s H E g r, w_pick⟩
theorem ca__law_letters (X : K.In h) (G : h.Ns mainGlobals mg) (D : DefK K "_law_letters" s__law_letters) (B : Bi mg) (c__law_pick : Ca P w K mg base 1 "_law_pick" ["pool", "many"] (spP K sp_pick)) : Ca P w K mg base 2 "_law_letters" ["pool", "most"] (spP K sp_letters2) :=
  caP (k := 1) D X G sc__law_letters (fun _ _ _ _ _ _ us hl => match us, hl with | [_, _], _ => rfl) (fun ds p Φ q => by first | (obtain ⟨rfl, _⟩ := q; rfl) | (obtain ⟨_, rfl, _⟩ := q; rfl) | (obtain ⟨_, _, rfl, _⟩ := q; rfl) | (obtain ⟨_, _, _, rfl, _⟩ := q; rfl) | (obtain ⟨_, _, _, _, rfl, _⟩ := q; rfl) | (obtain ⟨_, _, _, _, _, rfl, _⟩ := q; rfl) | (obtain ⟨_, _, _, _, _, _, rfl, _⟩ := q; rfl) | (obtain ⟨_, _, _, _, _, _, _, rfl, _⟩ := q; rfl) | (obtain ⟨_, _, _, _, _, _, _, _, rfl, _⟩ := q; rfl) | (obtain ⟨_, _, _, _, _, _, _, _, _, rfl, _⟩ := q; rfl) | (obtain ⟨_, _, _, _, _, _, _, _, _, _, rfl, _⟩ := q; rfl) | (obtain ⟨_, _, _, _, _, _, _, _, _, _, _, rfl, _⟩ := q; rfl))
    fun f cdv A outer s H E g r => ⟨_, dv__law_letters B c__law_pick cdv A outer s H E g r, w_letters⟩
theorem ca_check_letters (X : K.In h) (G : h.Ns mainGlobals mg) (D : DefK K "check_letters" s_check_letters) (B : Bi mg) (g_ALPHABET : Gc K mg "ALPHABET" d_ALPHABET) (g_MOST_LETTERS : Gc K mg "MOST_LETTERS" d_MOST_LETTERS) (T_BadLetters : ExC K mg "BadLetters") : CaX P w K mg base 2 "check_letters" ["letters"] sp_check_letters :=
  caX (k := 1) D X G sc_check_letters (fun _ _ _ _ _ _ us hl => match us, hl with | [_], _ => rfl) (fun ds Φ Ψ q => by first | (obtain ⟨rfl, _⟩ := q; rfl) | (obtain ⟨_, rfl, _⟩ := q; rfl) | (obtain ⟨_, _, rfl, _⟩ := q; rfl) | (obtain ⟨_, _, _, rfl, _⟩ := q; rfl) | (obtain ⟨_, _, _, _, rfl, _⟩ := q; rfl) | (obtain ⟨_, _, _, _, _, rfl, _⟩ := q; rfl) | (obtain ⟨_, _, _, _, _, _, rfl, _⟩ := q; rfl) | (obtain ⟨_, _, _, _, _, _, _, rfl, _⟩ := q; rfl) | (obtain ⟨_, _, _, _, _, _, _, _, rfl, _⟩ := q; rfl) | (obtain ⟨_, _, _, _, _, _, _, _, _, rfl, _⟩ := q; rfl) | (obtain ⟨_, _, _, _, _, _, _, _, _, _, rfl, _⟩ := q; rfl) | (obtain ⟨_, _, _, _, _, _, _, _, _, _, _, rfl, _⟩ := q; rfl))
    fun f cdv A outer s H E g r => ⟨_, dv_check_letters B g_ALPHABET g_MOST_LETTERS T_BadLetters cdv A outer s H E g r, w_check_letters⟩
theorem ca_check_word (X : K.In h) (G : h.Ns mainGlobals mg) (D : DefW K "check_word" s_check_word "most" 200) (B : Bi mg) (N_BadSize : ErN P w K mg base 1 "BadSize" 1 ["size"] (fun xs => [("size" : Str)].zip xs)) (N_BadWord : ErN P w K mg base 1 "BadWord" 1 ["place"] (fun xs => [("place" : Str)].zip xs)) : CaW P w K mg base 3 "check_word" ["letters", "word", "most"] 2 "most" 200 sp_check_word :=
  caW (k := 2) D X G sc_check_word ⟨fun _ _ _ _ _ _ us u hl => match us, hl with | [_, _], _ => ⟨_, _, _, _, _, _, rfl, rfl, rfl⟩, fun _ _ _ _ _ _ us u hl => match us, hl with | [_, _], _ => rfl, rfl⟩ (fun ds Φ Ψ q => by first | (obtain ⟨rfl, _⟩ := q; rfl) | (obtain ⟨_, rfl, _⟩ := q; rfl) | (obtain ⟨_, _, rfl, _⟩ := q; rfl) | (obtain ⟨_, _, _, rfl, _⟩ := q; rfl) | (obtain ⟨_, _, _, _, rfl, _⟩ := q; rfl) | (obtain ⟨_, _, _, _, _, rfl, _⟩ := q; rfl) | (obtain ⟨_, _, _, _, _, _, rfl, _⟩ := q; rfl) | (obtain ⟨_, _, _, _, _, _, _, rfl, _⟩ := q; rfl) | (obtain ⟨_, _, _, _, _, _, _, _, rfl, _⟩ := q; rfl) | (obtain ⟨_, _, _, _, _, _, _, _, _, rfl, _⟩ := q; rfl) | (obtain ⟨_, _, _, _, _, _, _, _, _, _, rfl, _⟩ := q; rfl) | (obtain ⟨_, _, _, _, _, _, _, _, _, _, _, rfl, _⟩ := q; rfl))
    fun f cdv A outer s H E g r => ⟨_, dv_check_word B N_BadSize N_BadWord cdv A outer s H E g r, w_check_word⟩
theorem ca_in_order (X : K.In h) (G : h.Ns mainGlobals mg) (D : CodeD K "in_order" s_in_order) (B : Bi mg) (hbm : BmOk mg base) (hln : ∀ l c, lamN l c = "in_order.<locals>.<lambda>") (hlx_in_order : ("in_order" : Str) ∈ lamNames) (hnt : ∀ b, ¬ TabK K b) : Ca P w K mg base 6 "in_order" ["letters", "words"] (spD K sp_in_order) :=
  caDL (k := 5) hlx_in_order hnt D X G sc_in_order (fun _ _ _ _ _ _ us hl => match us, hl with | [_, _], _ => rfl) (fun ds Φ q => by first | (obtain ⟨rfl, _⟩ := q; rfl) | (obtain ⟨_, rfl, _⟩ := q; rfl) | (obtain ⟨_, _, rfl, _⟩ := q; rfl) | (obtain ⟨_, _, _, rfl, _⟩ := q; rfl) | (obtain ⟨_, _, _, _, rfl, _⟩ := q; rfl) | (obtain ⟨_, _, _, _, _, rfl, _⟩ := q; rfl) | (obtain ⟨_, _, _, _, _, _, rfl, _⟩ := q; rfl) | (obtain ⟨_, _, _, _, _, _, _, rfl, _⟩ := q; rfl) | (obtain ⟨_, _, _, _, _, _, _, _, rfl, _⟩ := q; rfl) | (obtain ⟨_, _, _, _, _, _, _, _, _, rfl, _⟩ := q; rfl) | (obtain ⟨_, _, _, _, _, _, _, _, _, _, rfl, _⟩ := q; rfl) | (obtain ⟨_, _, _, _, _, _, _, _, _, _, _, rfl, _⟩ := q; rfl))
    fun f cdv T hcd A outer s H E g r => ⟨_, dv_in_order B hbm hln cdv hcd A outer s H E g r, w_in_order⟩
theorem ca__law_told (X : K.In h) (G : h.Ns mainGlobals mg) (D : DefK K "_law_told" s__law_told) (c_check_word : CaW P w K mg base 3 "check_word" ["letters", "word", "most"] 2 "most" 200 sp_check_word) (hEs : Ers K mg ERL bE FLE) : Ca P w K mg base 4 "_law_told" ["letters", "word", "most"] (spD K sp_law_told) :=
  caD (k := 3) D X G sc__law_told (fun _ _ _ _ _ _ us hl => match us, hl with | [_, _, _], _ => rfl) (fun ds Φ q => by obtain ⟨_, _, _, _, h⟩ := q; rcases h with ⟨rfl, _⟩ | ⟨_, rfl, _⟩ <;> rfl)
    fun f cdv A outer s H E g r => ⟨_, dv__law_told c_check_word hEs cdv A outer s H E g r, w_law_told⟩
theorem ca__law_are_letters (X : K.In h) (G : h.Ns mainGlobals mg) (D : DefK K "_law_are_letters" s__law_are_letters) (B : Bi mg) : Ca P w K mg base 1 "_law_are_letters" ["text"] (spD K sp_law_are_letters) :=
  caD (k := 0) D X G sc__law_are_letters (fun _ _ _ _ _ _ us hl => match us, hl with | [_], _ => rfl) (fun ds Φ q => by first | (obtain ⟨rfl, _⟩ := q; rfl) | (obtain ⟨_, rfl, _⟩ := q; rfl) | (obtain ⟨_, _, rfl, _⟩ := q; rfl) | (obtain ⟨_, _, _, rfl, _⟩ := q; rfl) | (obtain ⟨_, _, _, _, rfl, _⟩ := q; rfl) | (obtain ⟨_, _, _, _, _, rfl, _⟩ := q; rfl) | (obtain ⟨_, _, _, _, _, _, rfl, _⟩ := q; rfl) | (obtain ⟨_, _, _, _, _, _, _, rfl, _⟩ := q; rfl) | (obtain ⟨_, _, _, _, _, _, _, _, rfl, _⟩ := q; rfl) | (obtain ⟨_, _, _, _, _, _, _, _, _, rfl, _⟩ := q; rfl) | (obtain ⟨_, _, _, _, _, _, _, _, _, _, rfl, _⟩ := q; rfl) | (obtain ⟨_, _, _, _, _, _, _, _, _, _, _, rfl, _⟩ := q; rfl))
    fun f cdv A outer s H E g r => ⟨_, dv__law_are_letters B cdv A outer s H E g r, w_law_are_letters⟩
theorem ca__law_checked (X : K.In h) (G : h.Ns mainGlobals mg) (D : DefK K "_law_checked" s__law_checked) (c_check_letters : CaX P w K mg base 2 "check_letters" ["letters"] sp_check_letters) (hEs : Ers K mg ERL bE FLE) : Ca P w K mg base 3 "_law_checked" ["text"] (spD K sp_law_checked) :=
  caD (k := 2) D X G sc__law_checked (fun _ _ _ _ _ _ us hl => match us, hl with | [_], _ => rfl) (fun ds Φ q => by first | (obtain ⟨rfl, _⟩ := q; rfl) | (obtain ⟨_, rfl, _⟩ := q; rfl) | (obtain ⟨_, _, rfl, _⟩ := q; rfl) | (obtain ⟨_, _, _, rfl, _⟩ := q; rfl) | (obtain ⟨_, _, _, _, rfl, _⟩ := q; rfl) | (obtain ⟨_, _, _, _, _, rfl, _⟩ := q; rfl) | (obtain ⟨_, _, _, _, _, _, rfl, _⟩ := q; rfl) | (obtain ⟨_, _, _, _, _, _, _, rfl, _⟩ := q; rfl) | (obtain ⟨_, _, _, _, _, _, _, _, rfl, _⟩ := q; rfl) | (obtain ⟨_, _, _, _, _, _, _, _, _, rfl, _⟩ := q; rfl) | (obtain ⟨_, _, _, _, _, _, _, _, _, _, rfl, _⟩ := q; rfl) | (obtain ⟨_, _, _, _, _, _, _, _, _, _, _, rfl, _⟩ := q; rfl))
    fun f cdv A outer s H E g r => ⟨_, dv__law_checked c_check_letters hEs cdv A outer s H E g r, w_law_checked⟩
theorem ca__law_ahead (X : K.In h) (G : h.Ns mainGlobals mg) (D : DefK K "_law_ahead" s__law_ahead) (B : Bi mg) : Ca P w K mg base 1 "_law_ahead" ["letters", "one", "other"] (spD K sp_law_ahead) :=
  caD (k := 0) D X G sc__law_ahead (fun _ _ _ _ _ _ us hl => match us, hl with | [_, _, _], _ => rfl) (fun ds Φ q => by first | (obtain ⟨rfl, _⟩ := q; rfl) | (obtain ⟨_, rfl, _⟩ := q; rfl) | (obtain ⟨_, _, rfl, _⟩ := q; rfl) | (obtain ⟨_, _, _, rfl, _⟩ := q; rfl) | (obtain ⟨_, _, _, _, rfl, _⟩ := q; rfl) | (obtain ⟨_, _, _, _, _, rfl, _⟩ := q; rfl) | (obtain ⟨_, _, _, _, _, _, rfl, _⟩ := q; rfl) | (obtain ⟨_, _, _, _, _, _, _, rfl, _⟩ := q; rfl) | (obtain ⟨_, _, _, _, _, _, _, _, rfl, _⟩ := q; rfl) | (obtain ⟨_, _, _, _, _, _, _, _, _, rfl, _⟩ := q; rfl) | (obtain ⟨_, _, _, _, _, _, _, _, _, _, rfl, _⟩ := q; rfl) | (obtain ⟨_, _, _, _, _, _, _, _, _, _, _, rfl, _⟩ := q; rfl))
    fun f cdv A outer s H E g r => ⟨_, dv__law_ahead B cdv A outer s H E g r, w_law_ahead⟩
theorem all_mk {fa : Addr} (X : K.In h) (G : h.Ns mainGlobals mg) (hfa : mg "law" = some (.ref fa)) (B : Bi mg) (g_MOST_LETTERS : Gc K mg "MOST_LETTERS" d_MOST_LETTERS) (g_ALPHABET : Gc K mg "ALPHABET" d_ALPHABET) (T_BadLetters : ExC K mg "BadLetters") (N_BadSize : ∀ base : Heap, ErN P w K mg base 1 "BadSize" 1 ["size"] (fun xs => [("size" : Str)].zip xs)) (N_BadWord : ∀ base : Heap, ErN P w K mg base 1 "BadWord" 1 ["place"] (fun xs => [("place" : Str)].zip xs)) (hln : ∀ l c, lamN l c = "in_order.<locals>.<lambda>") (hlx_in_order : ("in_order" : Str) ∈ lamNames) (hnt : ∀ b, ¬ TabK K b) (hEs : Ers K mg ERL bE FLE) (D__law_pool : DefK K "_law_pool" s__law_pool) (D__law_stream : DefK K "_law_stream" s__law_stream) (D__law_pick : DefK K "_law_pick" s__law_pick) (D__law_letters : DefK K "_law_letters" s__law_letters) (D_check_letters : DefK K "check_letters" s_check_letters) (D_check_word : DefW K "check_word" s_check_word "most" 200) (D_in_order : CodeD K "in_order" s_in_order) (D__law_told : DefK K "_law_told" s__law_told) (D__law_are_letters : DefK K "_law_are_letters" s__law_are_letters) (D__law_checked : DefK K "_law_checked" s__law_checked) (D__law_ahead : DefK K "_law_ahead" s__law_ahead) (D_law : DefK K "law" s_law) :
    ∃ fd : FuncData, (∀ (s : Shared) (v : Value), BindsTo s fd ⟨[v], []⟩ [("script", v)]) ∧ ∀ base : Heap, BmOk mg base → FnG P w K mg base CX0 7 fa fd ["script"] (spLaw K) := by
  have c__law_pool := fun (base : Heap) (hbm : BmOk mg base) => ca__law_pool (P := P) (w := w) (base := base) X G D__law_pool B
  have c__law_stream := fun (base : Heap) (hbm : BmOk mg base) => ca__law_stream (P := P) (w := w) (base := base) X G D__law_stream (c__law_pool base hbm)
  have c__law_pick := fun (base : Heap) (hbm : BmOk mg base) => ca__law_pick (P := P) (w := w) (base := base) X G D__law_pick B
  have c__law_letters := fun (base : Heap) (hbm : BmOk mg base) => ca__law_letters (P := P) (w := w) (base := base) X G D__law_letters B (c__law_pick base hbm)
  have c_check_letters := fun (base : Heap) (hbm : BmOk mg base) => ca_check_letters (P := P) (w := w) (base := base) X G D_check_letters B g_ALPHABET g_MOST_LETTERS T_BadLetters
  have c_check_word := fun (base : Heap) (hbm : BmOk mg base) => ca_check_word (P := P) (w := w) (base := base) X G D_check_word B (N_BadSize base) (N_BadWord base)
  have c_in_order := fun (base : Heap) (hbm : BmOk mg base) => ca_in_order (P := P) (w := w) (base := base) X G D_in_order B hbm hln hlx_in_order hnt
  have c__law_told := fun (base : Heap) (hbm : BmOk mg base) => ca__law_told (P := P) (w := w) (base := base) X G D__law_told (c_check_word base hbm) hEs
  have c__law_are_letters := fun (base : Heap) (hbm : BmOk mg base) => ca__law_are_letters (P := P) (w := w) (base := base) X G D__law_are_letters B
  have c__law_checked := fun (base : Heap) (hbm : BmOk mg base) => ca__law_checked (P := P) (w := w) (base := base) X G D__law_checked (c_check_letters base hbm) hEs
  have c__law_ahead := fun (base : Heap) (hbm : BmOk mg base) => ca__law_ahead (P := P) (w := w) (base := base) X G D__law_ahead B
  refine caLaw (k := 6) (kS := 2) (sx := "_law_stream") D_law X G hfa sc_law (by decide) rfl (by decide) (fun s v kV dc pm an cd ct => .of_eq rfl) c__law_stream (fun base hbm f cdv A outer s H E fS fdS FS gS kS bS g r => ?_) fun base hbm f cdv A outer s H E g r => ⟨_, dv_law B (c__law_ahead base hbm) (c_in_order base hbm) (c__law_pick base hbm) (c__law_told base hbm) (c__law_checked base hbm) (c__law_letters base hbm) (c__law_are_letters base hbm)   cdv A outer s H E g r, w_law⟩
  exact ps_set (i := 1) sc_law.nd rfl (by first | exact Or.inr rfl | exact Or.inl rfl) (pe_callG FS g (r.mono (by decide)) rfl gS kS bS .nil pass0 (pa_cons (pv 0) pa_nil))
end
end L01
namespace L01
open PySem PySem.Spec PyProof.Rows L2 DL
section
variable {K : PySem.W.Frag} {mg : Str → Option Value} {h : Heap}
theorem bi_mk (X : K.In h) (G : h.Ns mainGlobals mg) (z_len : PySem.W.nsIn K mainGlobals "len" = some none) (z_int : PySem.W.nsIn K mainGlobals "int" = some none) (z_str : PySem.W.nsIn K mainGlobals "str" = some none) (z_bool : PySem.W.nsIn K mainGlobals "bool" = some none) (z_list : PySem.W.nsIn K mainGlobals "list" = some none) (z_tuple : PySem.W.nsIn K mainGlobals "tuple" = some none) (z_max : PySem.W.nsIn K mainGlobals "max" = some none) (z_min : PySem.W.nsIn K mainGlobals "min" = some none) (z_sum : PySem.W.nsIn K mainGlobals "sum" = some none) (z_any : PySem.W.nsIn K mainGlobals "any" = some none) (z_all : PySem.W.nsIn K mainGlobals "all" = some none) (z_repr : PySem.W.nsIn K mainGlobals "repr" = some none) (z_range : PySem.W.nsIn K mainGlobals "range" = some none) (z_enumerate : PySem.W.nsIn K mainGlobals "enumerate" = some none) (z_zip : PySem.W.nsIn K mainGlobals "zip" = some none) (z_isinstance : PySem.W.nsIn K mainGlobals "isinstance" = some none) (z_sorted : PySem.W.nsIn K mainGlobals "sorted" = some none) : Bi mg :=
  ⟨PySem.W.mg_none_of X G z_len, PySem.W.mg_none_of X G z_int, PySem.W.mg_none_of X G z_str, PySem.W.mg_none_of X G z_bool, PySem.W.mg_none_of X G z_list, PySem.W.mg_none_of X G z_tuple, PySem.W.mg_none_of X G z_max, PySem.W.mg_none_of X G z_min, PySem.W.mg_none_of X G z_sum, PySem.W.mg_none_of X G z_any, PySem.W.mg_none_of X G z_all, PySem.W.mg_none_of X G z_repr, PySem.W.mg_none_of X G z_range, PySem.W.mg_none_of X G z_enumerate, PySem.W.mg_none_of X G z_zip, PySem.W.mg_none_of X G z_isinstance, PySem.W.mg_none_of X G z_sorted⟩
end
end L01
open PySem PySem.W PyProof.Rows
set_option maxHeartbeats 0 in
theorem PySem.Challenge.cw_hallofwords_k01_letters_and_words_holds : PySem.Challenge.rw_hallofwords_k01_letters_and_words.Holds := by
  w_on; o_law; k_head; (case hw => w_witness2)
  k_fill
  refine DL.walk_ofG (l := PySem.Challenge.rw_hallofwords_k01_letters_and_words) (k := 7) (x := "script") rfl rfl ⟨rfl, by decide, by decide⟩ (fun w h Y => PySem.W.km_in_of Y) (by decide +kernel) ?F
  case F =>
    intro w mg fa h KX G hmg
    refine' L01.all_mk KX G hmg (L01.bi_mk KX G ?z_len ?z_int ?z_str ?z_bool ?z_list ?z_tuple ?z_max ?z_min ?z_sum ?z_any ?z_all ?z_repr ?z_range ?z_enumerate ?z_zip ?z_isinstance ?z_sorted)  (DL.gc_int KX G ?gc_MOST_LETTERS) (DL.gc_str KX G ?gc_ALPHABET) (DL.exC_val KX G ?t1_BadLetters ?t2_BadLetters ?t3_BadLetters ?t4_BadLetters ?t5_BadLetters) (L01.n_BadSize KX G ?o_a_BadSize (DL.oexC_mk ?o_l_BadSize ?o_r_BadSize ?o_s_BadSize ?o_e_BadSize ?o_t_BadSize ?o_k_BadSize) ?o_no_BadSize (DL.InitK.mk5 ?o_ii_BadSize ?o_ti_BadSize ?o_il_BadSize ?o_c_BadSize ?o_ik_BadSize) ?o_aB_BadSize (DL.baseC_mk ?o_b1_BadSize ?o_b2_BadSize ?o_b3_BadSize ?o_b4_BadSize)) (L01.n_BadWord KX G ?o_a_BadWord (DL.oexC_mk ?o_l_BadWord ?o_r_BadWord ?o_s_BadWord ?o_e_BadWord ?o_t_BadWord ?o_k_BadWord) ?o_no_BadWord (DL.InitK.mk5 ?o_ii_BadWord ?o_ti_BadWord ?o_il_BadWord ?o_c_BadWord ?o_ik_BadWord) ?o_aB_BadWord (DL.baseC_mk ?o_b1_BadWord ?o_b2_BadWord ?o_b3_BadWord ?o_b4_BadWord)) (fun _ _ => rfl) (by decide) (fun b z => by obtain ⟨x, _, _, _, _, _, _, _, _, hx, _⟩ := z; exact (List.not_mem_nil (show x ∈ ([] : List Str) from hx)).elim) (DL.ers_mk KX G ?e_V ?e_T) (DL.DefK.mk4 ?a__law_pool ?l__law_pool ?c__law_pool ?k__law_pool) (DL.DefK.mk4 ?a__law_stream ?l__law_stream ?c__law_stream ?k__law_stream) (DL.DefK.mk4 ?a__law_pick ?l__law_pick ?c__law_pick ?k__law_pick) (DL.DefK.mk4 ?a__law_letters ?l__law_letters ?c__law_letters ?k__law_letters) (DL.DefK.mk4 ?a_check_letters ?l_check_letters ?c_check_letters ?k_check_letters) (DL.DefW.mk5 ?a_check_word ?l_check_word ?c_check_word ?k_check_word ?d_check_word) (DL.CodeD.mk6 ?a_in_order ?l_in_order ?c_in_order ?k_in_order ?e_in_order) (DL.DefK.mk4 ?a__law_told ?l__law_told ?c__law_told ?k__law_told) (DL.DefK.mk4 ?a__law_are_letters ?l__law_are_letters ?c__law_are_letters ?k__law_are_letters) (DL.DefK.mk4 ?a__law_checked ?l__law_checked ?c__law_checked ?k__law_checked) (DL.DefK.mk4 ?a__law_ahead ?l__law_ahead ?c__law_ahead ?k__law_ahead) (DL.DefK.mk4 ?a_law ?l_law ?c_law ?k_law)
    (case z_len => k_is)
    (case z_int => k_is)
    (case z_str => k_is)
    (case z_bool => k_is)
    (case z_list => k_is)
    (case z_tuple => k_is)
    (case z_max => k_is)
    (case z_min => k_is)
    (case z_sum => k_is)
    (case z_any => k_is)
    (case z_all => k_is)
    (case z_repr => k_is)
    (case z_range => k_is)
    (case z_enumerate => k_is)
    (case z_zip => k_is)
    (case z_isinstance => k_is)
    (case z_sorted => k_is)
    (case gc_MOST_LETTERS => k_is)
    (case gc_ALPHABET => k_is)
    (case t1_BadLetters => k_is); (case t2_BadLetters => k_is); (case t3_BadLetters => k_exc); (case t4_BadLetters => k_is); (case t5_BadLetters => k_is)
    (case o_a_BadSize => k_is)
    (case o_l_BadSize => k_is)
    (case o_r_BadSize => decide +kernel)
    (case o_s_BadSize => k_is)
    (case o_e_BadSize => k_is)
    (case o_t_BadSize => k_is)
    (case o_k_BadSize => k_is)
    (case o_no_BadSize => k_is)
    (case o_ii_BadSize => k_is)
    (case o_ti_BadSize => k_is)
    (case o_il_BadSize => k_is)
    (case o_c_BadSize => k_is)
    (case o_ik_BadSize => k_is)
    (case o_aB_BadSize => k_is)
    (case o_b1_BadSize => k_is)
    (case o_b2_BadSize => k_is)
    (case o_b3_BadSize => k_is)
    (case o_b4_BadSize => k_is)
    (case o_a_BadWord => k_is)
    (case o_l_BadWord => k_is)
    (case o_r_BadWord => decide +kernel)
    (case o_s_BadWord => k_is)
    (case o_e_BadWord => k_is)
    (case o_t_BadWord => k_is)
    (case o_k_BadWord => k_is)
    (case o_no_BadWord => k_is)
    (case o_ii_BadWord => k_is)
    (case o_ti_BadWord => k_is)
    (case o_il_BadWord => k_is)
    (case o_c_BadWord => k_is)
    (case o_ik_BadWord => k_is)
    (case o_aB_BadWord => k_is)
    (case o_b1_BadWord => k_is)
    (case o_b2_BadWord => k_is)
    (case o_b3_BadWord => k_is)
    (case o_b4_BadWord => k_is)
    (case e_V => k_is); (case e_T => kernel_rfl)
    (case a__law_pool => k_is); (case l__law_pool => k_is); (case c__law_pool => k_is); (case k__law_pool => k_is)
    (case a__law_stream => k_is); (case l__law_stream => k_is); (case c__law_stream => k_is); (case k__law_stream => k_is)
    (case a__law_pick => k_is); (case l__law_pick => k_is); (case c__law_pick => k_is); (case k__law_pick => k_is)
    (case a__law_letters => k_is); (case l__law_letters => k_is); (case c__law_letters => k_is); (case k__law_letters => k_is)
    (case a_check_letters => k_is); (case l_check_letters => k_is); (case c_check_letters => k_is); (case k_check_letters => k_is)
    (case a_check_word => k_is); (case l_check_word => k_is); (case c_check_word => k_is); (case k_check_word => k_is); (case d_check_word => k_is)
    (case a_in_order => k_is); (case l_in_order => k_is); (case c_in_order => k_is); (case k_in_order => k_is); (case e_in_order => first | k_is | kernel_rfl)
    (case a__law_told => k_is); (case l__law_told => k_is); (case c__law_told => k_is); (case k__law_told => k_is)
    (case a__law_are_letters => k_is); (case l__law_are_letters => k_is); (case c__law_are_letters => k_is); (case k__law_are_letters => k_is)
    (case a__law_checked => k_is); (case l__law_checked => k_is); (case c__law_checked => k_is); (case k__law_checked => k_is)
    (case a__law_ahead => k_is); (case l__law_ahead => k_is); (case c__law_ahead => k_is); (case k__law_ahead => k_is)
    (case a_law => k_is); (case l_law => k_is); (case c_law => k_is); (case k_law => k_is)
