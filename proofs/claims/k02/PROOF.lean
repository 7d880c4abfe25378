import PyProof.Rows.All
import Wide.All
import OpenK.AllK
import Wide.FinOn
import HandS.AnyAll
import HandS.ForMost
import HandS.ForExc
import HandS.Deep
import HandS.IsInst
import HandS.TupAny
import HandS.TupMul
import HandS.RaiseMore
import PyProof.ReprRoads
import PyProof.CallFns
import HandS.ExcOwn
import HandS.Exc
import HandS.Comp
import HandS.Iter
import HandS.Zip
import KE.GoesMore
import PyProof.Draws
import PyProof.GenQ
import PyProof.GenCompD
import HandS.Nested
import HandS.GenOver
import HandS.ExcIs
import HandS.ExcValue
import HandS.ExcInit
import HandS.ExcField
import HandS.ClsMeth
import PyProof.Rows.CountFlat
import PyProof.StrOps2
import HandS.EndTab
import KE.KStateDown
import HandS.Head0
import HandS.Head1
import HandS.Head2
import HandS.HeadHook1
import HandS.HeadHook2
import KE.KNestM
import PyProof.Rows.StrJoinMade
import PyProof.Rows.StrDigitsNeg
import KE.SortData
import KE.LtData
import PyProof.Rows.SortWalk
import HandS.Style
import KE.KRevSl
import KE.DataCmp
import HandS.TupSets
import KE.KeyNested
import KE.KSortTupAny
import PySem.Challenge.RW_flagplans_k02_jobs
set_option Elab.async false
set_option linter.all false
set_option maxRecDepth 100000
set_option maxHeartbeats 4000000
/-! VD: plain data over the hand layer. A value of the walk stands for data (D); what has been stored is frozen, what may still change is owned by one slot. -/
namespace VD
open PySem L2

inductive D where
  | non
  | bl (b : Bool)
  | int (i : Int)
  | str (x : Str)
  | tup (l : List D)
  | lst (l : List D)
  | dct (ks vs : List D)
  | pen
  | exc (C : Addr) (fl : Str) (k : List D)
  /-- the script: a list that is read only -/
  | ro (l : List D)

/-- what stands for good -/
def Fz : HO → Prop
  | .tup _ => True
  | .frz _ _ => True
  | .ext _ => True
  | .xd _ => True
  | _ => False

/-- what may change behind a def's back: the pen, and the tables of code objects -/
structure Pw where
  pen : Option Addr
  cells : List Int
  tabs : List Addr
def Own (pn : Pw) (a : Addr) : Prop := pn.pen = some a ∨ a ∈ pn.tabs
/-- nothing but the pen has changed -/
def Xt (pn : Pw) (H H' : Hp) : Prop := ∀ a o, H a = some o → ¬ Own pn a → H' a = some o
theorem Xt.refl (pn : Pw) (H : Hp) : Xt pn H H := fun _ _ h _ => h
theorem Xt.trans {pn : Pw} {H H1 H2 : Hp} (a : Xt pn H H1) (b : Xt pn H1 H2) : Xt pn H H2 := fun x o h n => b x o (a x o h n) n
theorem Xt.new {pn : Pw} {H : Hp} {p : Addr} {o : HO} (h : H p = none) : Xt pn H (upd H p o) := fun a u e _ => by
  rw [upd_ne (ne_of_none e h)]
  exact e

/-- what stands for good stands -/
def Gr (H H' : Hp) : Prop := ∀ a o, H a = some o → Fz o → H' a = some o
theorem Gr.refl (H : Hp) : Gr H H := fun _ _ h _ => h
theorem Gr.trans {H H1 H2 : Hp} (a : Gr H H1) (b : Gr H1 H2) : Gr H H2 := fun x o h n => b x o (a x o h n) n
theorem Gr.new {H : Hp} {p : Addr} {o : HO} (h : H p = none) : Gr H (upd H p o) := fun a u e _ => by
  rw [upd_ne (ne_of_none e h)]
  exact e
/-- a change at what does not stand for good -/
theorem Gr.mut {H : Hp} {p : Addr} {o u : HO} (h : H p = some o) (n : ¬ Fz o) : Gr H (upd H p u) := fun a w e f => by
  have ne : a ≠ p := by
    rintro rfl
    rw [h] at e
    cases e
    exact n f
  rw [upd_ne ne]
  exact e

/-- a list that stands for good -/
def FzL (K : PySem.W.Frag) (H : Hp) (a : Addr) (xs : List V) : Prop := ∃ o, H a = some (.frz o (.lst xs))
theorem FzL.sq {K : PySem.W.Frag} {H : Hp} {a : Addr} {xs : List V} (h : FzL K H a xs) : SqL K H a xs := let ⟨o, h⟩ := h; .inl (.inr ⟨o, h⟩)
theorem FzL.gr {K : PySem.W.Frag} {H H' : Hp} {a : Addr} {xs : List V} (g : Gr H H') (h : FzL K H a xs) : FzL K H' a xs := let ⟨o, h⟩ := h; ⟨o, g _ _ h trivial⟩
theorem sqT_gr {K : PySem.W.Frag} {H H' : Hp} {a : Addr} {xs : List V} (g : Gr H H') (h : SqT K H a xs) : SqT K H' a xs := by
  rcases h with (h | ⟨o, h⟩) | h
  · exact .inl (.inl (g _ _ h trivial))
  · exact .inl (.inr ⟨o, g _ _ h trivial⟩)
  · exact .inr h

/-- an exception of the class at C, its dict at d -/
def ExAt (H : Hp) (a C : Addr) (d : Option Addr) : Prop := ∃ φ : Heap → Prop, H a = some (.ext φ) ∧ ∀ h, φ h → ∃ (oe : Obj) (vs : Array Value), h.get? a = some oe ∧ Zc (.ref C) d oe ∧ oe.data = .fields vs
def XdAt (H : Hp) (d : Addr) (fs : List (Str × V)) : Prop := H d = some (.xd fs) ∨ ∃ φ : Heap → Prop, H d = some (.ext φ) ∧ ∀ h, φ h → ∃ mA, h.Ns1 d mA ∧ ∀ f, RelO (fs.lookup f) (mA f)
theorem ExAt.gr {H H' : Hp} {a C : Addr} {d : Option Addr} (g : Gr H H') (h : ExAt H a C d) : ExAt H' a C d := let ⟨φ, e, w⟩ := h; ⟨φ, g _ _ e trivial, w⟩
theorem XdAt.gr {H H' : Hp} {d : Addr} {fs : List (Str × V)} (g : Gr H H') (h : XdAt H d fs) : XdAt H' d fs := by
  rcases h with h | ⟨φ, e, w⟩
  · exact .inl (g _ _ h trivial)
  · exact .inr ⟨φ, g _ _ e trivial, w⟩
/-- a list that stands for good, of ours or the module's -/
def RoL (K : PySem.W.Frag) (H : Hp) (a : Addr) (xs : List V) : Prop := (∃ o, H a = some (.frz o (.lst xs))) ∨
  ∃ (o : Obj) (its : Array Value) (n : Nat), K.lookup a = some o ∧ o.cls = .type "list" ∧ o.dict = none ∧ o.data = .seq its n ∧ its.size ≤ sizeLine ∧ Vals xs its.toList
theorem RoL.sq {K : PySem.W.Frag} {H : Hp} {a : Addr} {xs : List V} (h : RoL K H a xs) : SqL K H a xs := by
  rcases h with h | h
  · exact .inl (.inr h)
  · exact .inr h
theorem RoL.gr {K : PySem.W.Frag} {H H' : Hp} {a : Addr} {xs : List V} (g : Gr H H') (h : RoL K H a xs) : RoL K H' a xs := by
  rcases h with ⟨o, h⟩ | h
  · exact .inl ⟨o, g _ _ h trivial⟩
  · exact .inr h
mutual
/-- the value stands for the data -/
inductive Rep (pn : Pw) (K : PySem.W.Frag) (H : Hp) : V → D → Prop
  | non : Rep pn K H .non .non
  | bl (b : Bool) : Rep pn K H (.bl b) (.bl b)
  | int (i : Int) : Rep pn K H (.int i) (.int i)
  | str (x : Str) : Rep pn K H (.str x) (.str x)
  | tup {a : Addr} {vs : List V} {l : List D} : SqT K H a vs → Reps pn K H vs l → Rep pn K H (.ref a) (.tup l)
  | lst {a : Addr} {vs : List V} {l : List D} : FzL K H a vs → Reps pn K H vs l → Rep pn K H (.ref a) (.lst l)
  | pen {a : Addr} : pn.pen = some a → Rep pn K H (.ref a) .pen
  | ro {a : Addr} {vs : List V} {l : List D} : RoL K H a vs → Reps pn K H vs l → Rep pn K H (.ref a) (.ro l)
  | exc0 {a C : Addr} : ExAt H a C none → Rep pn K H (.ref a) (.exc C "" [])
  | exc1 {a C d : Addr} {fl : Str} {v : V} {x : D} : ExAt H a C (some d) → XdAt H d [(fl, v)] → Rep pn K H v x → Rep pn K H (.ref a) (.exc C fl [x])
inductive Reps (pn : Pw) (K : PySem.W.Frag) (H : Hp) : List V → List D → Prop
  | nil : Reps pn K H [] []
  | cons {v : V} {x : D} {vs : List V} {l : List D} : Rep pn K H v x → Reps pn K H vs l → Reps pn K H (v :: vs) (x :: l)
end

section
variable {pn : Pw} {K : PySem.W.Frag} {H H' : Hp}
mutual
theorem Rep.gr (g : Gr H H') : ∀ {v : V} {x : D}, Rep pn K H v x → Rep pn K H' v x
  | _, _, .non => .non
  | _, _, .bl b => .bl b
  | _, _, .int i => .int i
  | _, _, .str z => .str z
  | _, _, .tup h r => .tup (sqT_gr g h) (Reps.gr g r)
  | _, _, .lst h r => .lst (h.gr g) (Reps.gr g r)
  | _, _, .pen h => .pen h
  | _, _, .ro h r => .ro (h.gr g) (Reps.gr g r)
  | _, _, .exc0 h => .exc0 (h.gr g)
  | _, _, .exc1 h1 h2 r => .exc1 (h1.gr g) (h2.gr g) (Rep.gr g r)
theorem Reps.gr (g : Gr H H') : ∀ {vs : List V} {l : List D}, Reps pn K H vs l → Reps pn K H' vs l
  | _, _, .nil => .nil
  | _, _, .cons r t => .cons (Rep.gr g r) (Reps.gr g t)
end
theorem Reps.length : ∀ {vs : List V} {l : List D}, Reps pn K H vs l → vs.length = l.length
  | _, _, .nil => rfl
  | _, _, .cons _ t => by rw [List.length_cons, List.length_cons, Reps.length t]
theorem Reps.get : ∀ {vs : List V} {l : List D} {i : Nat} {x : D}, Reps pn K H vs l → l[i]? = some x → ∃ v, vs[i]? = some v ∧ Rep pn K H v x
  | _, _, _, _, .nil, e => by simp at e
  | _, _, 0, _, .cons r _, e => by simp at e; subst e; exact ⟨_, rfl, r⟩
  | _, _, i + 1, x, .cons _ t, e => by
    obtain ⟨v, h1, h2⟩ := Reps.get (i := i) (x := x) t (by simpa using e)
    exact ⟨v, by simpa using h1, h2⟩
theorem Reps.getV : ∀ {vs : List V} {l : List D} {i : Nat} {v : V}, Reps pn K H vs l → vs[i]? = some v → ∃ x, l[i]? = some x ∧ Rep pn K H v x
  | _, _, _, _, .nil, e => by simp at e
  | _, _, 0, _, .cons r _, e => by simp at e; subst e; exact ⟨_, rfl, r⟩
  | _, _, i + 1, v, .cons _ t, e => by
    obtain ⟨x, h1, h2⟩ := Reps.getV (i := i) (v := v) t (by simpa using e)
    exact ⟨x, by simpa using h1, h2⟩
theorem Reps.append : ∀ {vs ws : List V} {l m : List D}, Reps pn K H vs l → Reps pn K H ws m → Reps pn K H (vs ++ ws) (l ++ m)
  | _, _, _, _, .nil, s => s
  | _, _, _, _, .cons r t, s => .cons r (Reps.append t s)
theorem Reps.take : ∀ {vs : List V} {l : List D} (n : Nat), Reps pn K H vs l → Reps pn K H (vs.take n) (l.take n)
  | _, _, 0, _ => .nil
  | _, _, _ + 1, .nil => .nil
  | _, _, n + 1, .cons r t => .cons r (Reps.take n t)
theorem Reps.drop : ∀ {vs : List V} {l : List D} (n : Nat), Reps pn K H vs l → Reps pn K H (vs.drop n) (l.drop n)
  | _, _, 0, r => r
  | _, _, _ + 1, .nil => .nil
  | _, _, n + 1, .cons _ t => Reps.drop n t
theorem Reps.set {v : V} {x : D} (r : Rep pn K H v x) : ∀ {vs : List V} {l : List D} (i : Nat), Reps pn K H vs l → Reps pn K H (vs.set i v) (l.set i x)
  | _, _, _, .nil => .nil
  | _, _, 0, .cons _ t => .cons r t
  | _, _, i + 1, .cons q t => .cons q (Reps.set r i t)
theorem Reps.reverse : ∀ {vs : List V} {l : List D}, Reps pn K H vs l → Reps pn K H vs.reverse l.reverse
  | _, _, .nil => .nil
  | _, _, .cons r t => by
    rw [List.reverse_cons, List.reverse_cons]
    exact (Reps.reverse t).append (.cons r .nil)
end

/-! ### the pen -/
def PenC (pen : Option Addr) (ns : List Int) (K : PySem.W.Frag) (H : Hp) (n : Nat) : Prop := match pen with
  | none => True
  | some p => ∃ (c : Addr) (k l : Int), H p = some (.lst [.ref c, .int k, .int l]) ∧ FzL K H c (ns.map V.int) ∧ 0 ≤ k ∧ k ≤ n ∧ 0 ≤ l
def PenOk (pn : Pw) (K : PySem.W.Frag) (H : Hp) (n : Nat) : Prop := PenC pn.pen pn.cells K H n ∧ ∀ P ∈ pn.tabs, GxR.TabG H P
theorem PenOk.mono {pn : Pw} {K : PySem.W.Frag} {H : Hp} {n m : Nat} (h : PenOk pn K H n) (l : n ≤ m) : PenOk pn K H m := by
  obtain ⟨pe, ns, tb⟩ := pn
  refine ⟨?_, h.2⟩
  cases pe with
  | none => trivial
  | some p =>
    obtain ⟨c, k, j, h1, h2, h3, h4, h5⟩ := h.1
    exact ⟨c, k, j, h1, h2, h3, by omega, h5⟩
theorem PenOk.at {pn : Pw} {K : PySem.W.Frag} {H : Hp} {n : Nat} {a : Addr} (h : PenOk pn K H n) (o : Own pn a) : ∃ u, H a = some u ∧ ¬ Fz u := by
  rcases o with o | o
  · obtain ⟨pe, ns, tb⟩ := pn
    dsimp only at o
    subst o
    obtain ⟨c, k, l, h1, _⟩ := h.1
    exact ⟨_, h1, fun z => z⟩
  · obtain ⟨ps, h1, _⟩ := h.2 a o
    exact ⟨_, h1, fun z => z⟩
theorem PenOk.ne {pn : Pw} {K : PySem.W.Frag} {H : Hp} {n : Nat} {a : Addr} (h : PenOk pn K H n) (e : H a = none) : ¬ Own pn a := fun o => by
  obtain ⟨u, h1, _⟩ := h.at o
  rw [h1] at e
  cases e
theorem PenOk.xt {pn : Pw} {K : PySem.W.Frag} {H H' : Hp} {n : Nat} (h : PenOk pn K H n) (g : Gr H H') (s : ∀ a, Own pn a → H' a = H a) : PenOk pn K H' n := by
  obtain ⟨pe, ns, tb⟩ := pn
  refine ⟨?_, fun P hP => ?_⟩
  · cases pe with
    | none => trivial
    | some p =>
      obtain ⟨c, k, j, h1, h2, h3, h4, h5⟩ := h.1
      exact ⟨c, k, j, by rw [s p (.inl rfl)]; exact h1, h2.gr g, h3, h4, h5⟩
  · obtain ⟨ps, h1, h2⟩ := h.2 P hP
    exact ⟨ps, by rw [s P (.inr hP)]; exact h1, h2⟩
theorem Xt.gr {pn : Pw} {K : PySem.W.Frag} {H H' : Hp} {n : Nat} (x : Xt pn H H') (h : PenOk pn K H n) : Gr H H' := fun a o e f => by
  refine x a o e fun w => ?_
  obtain ⟨u, h1, h2⟩ := h.at w
  rw [h1] at e
  cases e
  exact h2 f

/-! ### the slots -/
/-- what a slot holds: data, or a list of the def's own that may still change -/
inductive S where
  | d (x : D)
  | own (l : List D)
abbrev En := List (Option S)

structure Good (pn : Pw) (K : PySem.W.Frag) (H0 : Hp) (e : En) (n : Nat) (σ : L2.St) (H : Hp) : Prop where
  len : σ.length = e.length
  dat : ∀ (i : Nat) x, e[i]? = some (some (.d x)) → ∃ v, σ[i]? = some (some v) ∧ Rep pn K H v x
  own : ∀ (i : Nat) l, e[i]? = some (some (.own l)) → ∃ a vs, σ[i]? = some (some (.ref a)) ∧ H a = some (.lst vs) ∧ Reps pn K H vs l ∧ H0 a = none ∧ ¬ Own pn a
  ne : ∀ (i j : Nat) l m a, i ≠ j → e[i]? = some (some (.own l)) → e[j]? = some (some (.own m)) → σ[i]? = some (some (.ref a)) → σ[j]? ≠ some (some (.ref a))
  stay : Xt pn H0 H
  pen : PenOk pn K H n

section
variable {pn : Pw} {K : PySem.W.Frag} {H0 H H' : Hp} {e : En} {n : Nat} {σ : L2.St}
/-- the heap has grown -/
theorem Good.xt {m : Nat} (g : Good pn K H0 e n σ H) (x : Xt pn H H') (p : PenOk pn K H' m) : Good pn K H0 e m σ H' where
  len := g.len
  dat := fun i y h => by
    obtain ⟨v, h1, h2⟩ := g.dat i y h
    exact ⟨v, h1, h2.gr (x.gr g.pen)⟩
  own := fun i l h => by
    obtain ⟨a, vs, h1, h2, h3, h4, h5⟩ := g.own i l h
    exact ⟨a, vs, h1, x _ _ h2 h5, h3.gr (x.gr g.pen), h4, h5⟩
  ne := g.ne
  stay := g.stay.trans x
  pen := p
theorem Good.new {p : Addr} {o : HO} (g : Good pn K H0 e n σ H) (h : H p = none) : Good pn K H0 e n σ (upd H p o) :=
  g.xt (Xt.new h) (g.pen.xt (Gr.new h) fun a ha => upd_ne fun z => g.pen.ne h (by rw [← z]; exact ha))
/-- a slot takes data -/
theorem Good.set (g : Good pn K H0 e n σ H) {i : Nat} {v : V} {x : D} (r : Rep pn K H v x) : Good pn K H0 (e.set i (some (.d x))) n (σ.set i (some v)) H where
  len := by rw [List.length_set, List.length_set]; exact g.len
  dat := fun j y h => by
    by_cases c : i = j
    · subst c
      by_cases hl : i < e.length
      · rw [List.getElem?_set_self hl] at h
        cases h
        exact ⟨v, by rw [List.getElem?_set_self (by rw [g.len]; exact hl)], r⟩
      · rw [List.getElem?_eq_none (by rw [List.length_set]; omega)] at h
        cases h
    · rw [List.getElem?_set_ne c] at h
      rw [List.getElem?_set_ne c]
      exact g.dat j y h
  own := fun j l h => by
    by_cases c : i = j
    · subst c
      by_cases hl : i < e.length
      · rw [List.getElem?_set_self hl] at h
        cases h
      · rw [List.getElem?_eq_none (by rw [List.length_set]; omega)] at h
        cases h
    · rw [List.getElem?_set_ne c] at h
      rw [List.getElem?_set_ne c]
      exact g.own j l h
  ne := fun j k l m a hjk h1 h2 h3 => by
    have nj : i ≠ j := by
      rintro rfl
      by_cases hl : i < e.length
      · rw [List.getElem?_set_self hl] at h1
        cases h1
      · rw [List.getElem?_eq_none (by rw [List.length_set]; omega)] at h1
        cases h1
    have nk : i ≠ k := by
      rintro rfl
      by_cases hl : i < e.length
      · rw [List.getElem?_set_self hl] at h2
        cases h2
      · rw [List.getElem?_eq_none (by rw [List.length_set]; omega)] at h2
        cases h2
    rw [List.getElem?_set_ne nj] at h1 h3
    rw [List.getElem?_set_ne nk] at h2 ⊢
    exact g.ne j k l m a hjk h1 h2 h3
  stay := g.stay
  pen := g.pen
/-- a slot takes a list that nothing else knows -/
theorem Good.setOwn (g : Good pn K H0 e n σ H) {i : Nat} {a : Addr} {vs : List V} {l : List D} (h : H a = some (.lst vs)) (r : Reps pn K H vs l) (h0 : H0 a = none) (hp : ¬ Own pn a)
    (un : ∀ (j : Nat) m, j ≠ i → e[j]? = some (some (.own m)) → σ[j]? ≠ some (some (.ref a))) : Good pn K H0 (e.set i (some (.own l))) n (σ.set i (some (.ref a))) H where
  len := by rw [List.length_set, List.length_set]; exact g.len
  dat := fun j y q => by
    by_cases c : i = j
    · subst c
      by_cases hl : i < e.length
      · rw [List.getElem?_set_self hl] at q
        cases q
      · rw [List.getElem?_eq_none (by rw [List.length_set]; omega)] at q
        cases q
    · rw [List.getElem?_set_ne c] at q
      rw [List.getElem?_set_ne c]
      exact g.dat j y q
  own := fun j m q => by
    by_cases c : i = j
    · subst c
      by_cases hl : i < e.length
      · rw [List.getElem?_set_self hl] at q
        cases q
        exact ⟨a, vs, by rw [List.getElem?_set_self (by rw [g.len]; exact hl)], h, r, h0, hp⟩
      · rw [List.getElem?_eq_none (by rw [List.length_set]; omega)] at q
        cases q
    · rw [List.getElem?_set_ne c] at q
      rw [List.getElem?_set_ne c]
      exact g.own j m q
  ne := fun j k m m' b hjk h1 h2 h3 => by
    by_cases cj : i = j
    · subst cj
      have nk : i ≠ k := hjk
      rw [List.getElem?_set_ne nk] at h2 ⊢
      by_cases hl : i < e.length
      · rw [List.getElem?_set_self (by rw [g.len]; exact hl)] at h3
        cases h3
        exact un k m' (Ne.symm nk) h2
      · rw [List.getElem?_eq_none (by rw [List.length_set]; omega)] at h1
        cases h1
    · rw [List.getElem?_set_ne cj] at h1 h3
      by_cases ck : i = k
      · subst ck
        by_cases hl : i < e.length
        · rw [List.getElem?_set_self (by rw [g.len]; exact hl)]
          intro z
          cases z
          exact un j m (Ne.symm cj) h1 h3
        · rw [List.getElem?_eq_none (by rw [List.length_set]; omega)] at h2
          cases h2
      · rw [List.getElem?_set_ne ck] at h2 ⊢
        exact g.ne j k m m' b hjk h1 h2 h3
  stay := g.stay
  pen := g.pen
/-- an owned list has changed -/
theorem Good.put (g : Good pn K H0 e n σ H) {i : Nat} {a : Addr} {vs ws : List V} {l m : List D} (he : e[i]? = some (some (.own l))) (hs : σ[i]? = some (some (.ref a))) (h : H a = some (.lst vs)) (r : Reps pn K H ws m) :
    Good pn K H0 (e.set i (some (.own m))) n σ (upd H a (.lst ws)) := by
  obtain ⟨a', vs', s1, s2, s3, s4, s5⟩ := g.own i l he
  rw [hs] at s1
  cases s1
  have gr : Gr H (upd H a (.lst ws)) := Gr.mut h (fun z => z)
  have hl : i < e.length := by
    rcases Nat.lt_or_ge i e.length with q | q
    · exact q
    · rw [List.getElem?_eq_none q] at he
      cases he
  refine ⟨by rw [List.length_set]; exact g.len, fun j y q => ?_, fun j k q => ?_, fun j k p q b hjk h1 h2 h3 => ?_, fun b o q z => ?_, g.pen.xt gr fun b hb => upd_ne fun z => s5 (by rw [← z]; exact hb)⟩
  · by_cases c : i = j
    · subst c
      rw [List.getElem?_set_self hl] at q
      cases q
    · rw [List.getElem?_set_ne c] at q
      obtain ⟨v, h1, h2⟩ := g.dat j y q
      exact ⟨v, h1, h2.gr gr⟩
  · by_cases c : i = j
    · subst c
      rw [List.getElem?_set_self hl] at q
      cases q
      exact ⟨a, ws, hs, upd_same, r.gr gr, s4, s5⟩
    · rw [List.getElem?_set_ne c] at q
      obtain ⟨b, us, h1, h2, h3, h4, h5⟩ := g.own j k q
      have nb : b ≠ a := by
        rintro rfl
        exact g.ne j i k l b (Ne.symm c) q he h1 hs
      exact ⟨b, us, h1, by rw [upd_ne nb]; exact h2, h3.gr gr, h4, h5⟩
  · have e1 : ∃ p', e[j]? = some (some (.own p')) := by
      by_cases c : i = j
      · subst c
        exact ⟨l, he⟩
      · rw [List.getElem?_set_ne c] at h1
        exact ⟨p, h1⟩
    have e2 : ∃ q', e[k]? = some (some (.own q')) := by
      by_cases c : i = k
      · subst c
        exact ⟨l, he⟩
      · rw [List.getElem?_set_ne c] at h2
        exact ⟨q, h2⟩
    obtain ⟨p', e1⟩ := e1
    obtain ⟨q', e2⟩ := e2
    exact g.ne j k p' q' b hjk e1 e2 h3
  · have nb : b ≠ a := by
      rintro rfl
      rw [s4] at q
      cases q
    rw [upd_ne nb]
    exact g.stay b o q z
end
end VD

set_option Elab.async false
set_option linter.all false
set_option maxRecDepth 100000
set_option maxHeartbeats 4000000
namespace VD
open PySem L2

/-- m: stands for good; f: a new list; x: to be read now -/
inductive Kd where
  | m | f | x | g

def RepX (pn : Pw) (K : PySem.W.Frag) (H : Hp) (v : V) (y : D) : Prop :=
  Rep pn K H v y ∨ ∃ (a : Addr) (vs : List V) (l : List D), v = .ref a ∧ y = .lst l ∧ H a = some (.lst vs) ∧ ¬ Own pn a ∧ Reps pn K H vs l
def New (pn : Pw) (K : PySem.W.Frag) (H H' : Hp) (v : V) (y : D) : Prop :=
  ∃ (p : Addr) (vs : List V) (l : List D), v = .ref p ∧ y = .lst l ∧ H p = none ∧ H' p = some (.lst vs) ∧ Reps pn K H' vs l
def RK (k : Kd) (pn : Pw) (K : PySem.W.Frag) (H H' : Hp) (v : V) (y : D) : Prop := match k with
  | .m => Rep pn K H' v y
  | .f => New pn K H H' v y
  | .x => RepX pn K H' v y
  | .g => match y with
    | .lst _ => New pn K H H' v y
    | _ => Rep pn K H' v y
/-- what may be read of an operand -/
def RR (k : Kd) (pn : Pw) (K : PySem.W.Frag) (H : Hp) (v : V) (y : D) : Prop := match k with
  | .m => Rep pn K H v y
  | .f => RepX pn K H v y
  | .x => RepX pn K H v y
  | .g => RepX pn K H v y

section
variable {pn : Pw} {K : PySem.W.Frag} {H0 H H1 H2 : Hp} {n : Nat} {v : V} {y : D} {k : Kd}
theorem RepX.xt (x : Xt pn H H1) (p : PenOk pn K H n) (r : RepX pn K H v y) : RepX pn K H1 v y := by
  rcases r with r | ⟨a, vs, l, h1, h2, h3, h4, h5⟩
  · exact .inl (r.gr (x.gr p))
  · exact .inr ⟨a, vs, l, h1, h2, x _ _ h3 h4, h4, h5.gr (x.gr p)⟩
theorem RR.xt (x : Xt pn H H1) (p : PenOk pn K H n) (r : RR k pn K H v y) : RR k pn K H1 v y := by
  cases k with
  | m => exact Rep.gr (x.gr p) r
  | f => exact RepX.xt x p r
  | x => exact RepX.xt x p r
  | g => exact RepX.xt x p r
theorem RR.rx (r : RR k pn K H v y) : RepX pn K H v y := by
  cases k with
  | m => exact .inl r
  | f => exact r
  | x => exact r
  | g => exact r
theorem RK.g_of (h : RK .g pn K H H1 v y) : (∃ l, y = .lst l ∧ New pn K H H1 v y) ∨ Rep pn K H1 v y := by
  unfold RK at h
  dsimp only at h
  split at h
  · exact .inl ⟨_, rfl, h⟩
  · exact .inr h
theorem fresh_back {p : Addr} (x : Xt pn H H1) (g : PenOk pn K H1 n) (h : H1 p = none) : H p = none := by
  cases e : H p with
  | none => rfl
  | some o =>
    have z := x p o e (g.ne h)
    rw [h] at z
    cases z
theorem RK.rr (r : RK k pn K H H1 v y) (g : PenOk pn K H n) : RR k pn K H1 v y := by
  cases k with
  | m => exact r
  | f =>
    obtain ⟨p, vs, l, h1, h2, h3, h4, h5⟩ := r
    exact .inr ⟨p, vs, l, h1, h2, h4, g.ne h3, h5⟩
  | x => exact r
  | g =>
    rcases r.g_of with ⟨l0, e0, p, vs, l, h1, h2, h3, h4, h5⟩ | r
    · exact .inr ⟨p, vs, l, h1, h2, h4, g.ne h3, h5⟩
    · exact .inl r
theorem RK.back (r : RK k pn K H1 H2 v y) (x : Xt pn H H1) (g : PenOk pn K H1 n) : RK k pn K H H2 v y := by
  cases k with
  | m => exact r
  | f =>
    obtain ⟨p, vs, l, h1, h2, h3, h4, h5⟩ := r
    exact ⟨p, vs, l, h1, h2, fresh_back x g h3, h4, h5⟩
  | x => exact r
  | g =>
    unfold RK at r ⊢
    dsimp only at r ⊢
    split at r
    · obtain ⟨p, vs, l, h1, h2, h3, h4, h5⟩ := r
      exact ⟨p, vs, l, h1, h2, fresh_back x g h3, h4, h5⟩
    · exact r
end

abbrev DK := D → Nat → Prop
/-- an expression over data; n: how often the pen was asked -/
abbrev TD := En → Nat → DK → Prop
abbrev TTD := En → Nat → (Bool → Nat → Prop) → Prop
abbrev TAD := En → Nat → (List D → Nat → Prop) → Prop

def up (pn : Pw) (H0 : Hp) (K : PySem.W.Frag) (k : Kd) (t : TD) : TE := fun σ H Q => ∃ (e : En) (n : Nat) (Qd : DK), Good pn K H0 e n σ H ∧ t e n Qd ∧
  ∀ v H' y n', Good pn K H0 e n' σ H' → Xt pn H H' → RK k pn K H H' v y → Qd y n' → Q v H'
def upT (pn : Pw) (H0 : Hp) (K : PySem.W.Frag) (t : TTD) : TT := fun σ H Q => ∃ (e : En) (n : Nat) (Qd : Bool → Nat → Prop), Good pn K H0 e n σ H ∧ t e n Qd ∧
  ∀ b H' n', Good pn K H0 e n' σ H' → Xt pn H H' → Qd b n' → Q b H'
def upA (pn : Pw) (H0 : Hp) (K : PySem.W.Frag) (t : TAD) : TA := fun σ H Q => ∃ (e : En) (n : Nat) (Qd : List D → Nat → Prop), Good pn K H0 e n σ H ∧ t e n Qd ∧
  ∀ vs H' l n', Good pn K H0 e n' σ H' → Xt pn H H' → Reps pn K H' vs l → Qd l n' → Q vs H'
/-- one that is read at once -/
def upA1 (pn : Pw) (H0 : Hp) (K : PySem.W.Frag) (k : Kd) (t : TD) : TA := fun σ H Q => up pn H0 K k t σ H fun v H1 => Q [v] H1

abbrev PD (X : Cx) (pn : Pw) (H0 : Hp) (k : Kd) (e : Expr) (t : TD) : Prop := PE X e (up pn H0 X.K k t)
abbrev PDT (X : Cx) (pn : Pw) (H0 : Hp) (e : Expr) (t : TTD) : Prop := PT X e (upT pn H0 X.K t)
abbrev PDA (X : Cx) (pn : Pw) (H0 : Hp) (es : List Expr) (t : TAD) : Prop := PA X es (upA pn H0 X.K t)

theorem pe_wk {X : Cx} {e : Expr} {t t' : TE} (h : PE X e t) (w : ∀ σ H Q, t' σ H Q → t σ H Q) : PE X e t' := ⟨fun pins s σ H Q I q => h.run pins s σ H Q I (w σ H Q q)⟩
theorem pt_wk {X : Cx} {e : Expr} {t t' : TT} (h : PT X e t) (w : ∀ σ H Q, t' σ H Q → t σ H Q) : PT X e t' := ⟨fun pins s σ H Q I q => h.run pins s σ H Q I (w σ H Q q)⟩
theorem pw_wk {X : Cx} {e : Expr} {t t' : TT} (h : PW X e t) (w : ∀ σ H Q, t' σ H Q → t σ H Q) : PW X e t' := ⟨fun wh pins s σ H Q I q => h.run wh pins s σ H Q I (w σ H Q q)⟩
theorem pa_wk {X : Cx} {es : List Expr} {t t' : TA} (h : PA X es t) (w : ∀ σ H Q, t' σ H Q → t σ H Q) : PA X es t' := ⟨fun pos pins s σ H Q I q => h.run pos pins s σ H Q I (w σ H Q q)⟩
theorem ps_wk {X : Cx} {st : Stmt} {t t' : TS} (h : PS X st t) (w : ∀ E σ H, t' E σ H → t E σ H) : PS X st t' := ⟨fun pins s σ H E I q => h.run pins s σ H E I (w E σ H q)⟩
theorem pss_wk {X : Cx} {st : List Stmt} {t t' : TS} (h : PSs X st t) (w : ∀ E σ H, t' E σ H → t E σ H) : PSs X st t' := ⟨fun pins s σ H E I q => h.run pins s σ H E I (w E σ H q)⟩

/-! ### a list is frozen: nothing of the machine changes -/
theorem Inv.freeze {X : Cx} {pins : List (Addr × Obj)} {σ : L2.St} {H : Hp} {s : Shared} {a : Addr} {vs : List V} (I : Inv X pins σ H s) (h : H a = some (.lst vs)) : ∃ o, Inv X pins σ (upd H a (.frz o (.lst vs))) s := by
  obtain ⟨hz, its, n, r, ho⟩ := I.hok a _ h
  refine ⟨_, I.un (H' := upd H a (.frz { cls := .type "list", data := .seq its.toArray n } (.lst vs))) (h' := s.heap) (t' := s.toks) ⟨fun b o q _ _ _ => q, fun b o q _ _ _ => ⟨o.slots, q⟩, fun b o q z _ => ?_, fun b o q _ => ⟨o, q⟩, fun b xs q => ?_, fun b o u q => ?_, fun b ps q => ⟨#[], ?_⟩⟩ (fun b u q => ?_)⟩
  · have ne : b ≠ a := by
      rintro rfl
      rw [h] at z
      cases z
    rw [upd_ne ne]
    exact z
  · have ne : b ≠ a := by
      rintro rfl
      rw [h] at q
      cases q
    rw [upd_ne ne]
    exact q
  · have ne : b ≠ a := by
      rintro rfl
      rw [h] at q
      cases q
    rw [upd_ne ne]
    exact q
  · have ne : b ≠ a := by
      rintro rfl
      rw [h] at q
      cases q
    rw [upd_ne ne, q]
    simp
  · by_cases c : b = a
    · subst c
      rw [upd_same] at q
      cases q
      exact ⟨ho, hz, its, n, r, ho⟩
    · rw [upd_ne c] at q
      refine (I.hok b u q).stay (fun d w _ z => z) (fun d z => ?_) fun d xs z => ?_
      · have ne : d ≠ a := by
          rintro rfl
          rw [h] at z
          cases z
        rw [upd_ne ne]
        exact z
      · have ne : d ≠ a := by
          rintro rfl
          rw [h] at z
          cases z
        rw [upd_ne ne]
        exact z

section
variable {X : Cx} {pn : Pw} {H0 : Hp}
/-- a new list is given away -/
theorem pd_fz {e : Expr} {t : TD} (h : PD X pn H0 .f e t) : PD X pn H0 .m e t := by
  refine ⟨fun pins s σ H Q I ⟨en, n, Qd, g, ht, q⟩ => ?_⟩
  refine thn (h.run pins s σ H (fun v H' => ∃ y n', Good pn X.K H0 en n' σ H' ∧ Xt pn H H' ∧ RK .f pn X.K H H' v y ∧ Qd y n') I ⟨en, n, Qd, g, ht, fun v H' y n' a b c d => ⟨y, n', a, b, c, d⟩⟩) fun u s1 ⟨v, H', I1, rv, y, n', g1, x1, ⟨p, vs, l, e1, e2, e3, e4, e5⟩, q1⟩ => ?_
  obtain ⟨o, I2⟩ := Inv.freeze I1 e4
  have gr : Gr H' (upd H' p (.frz o (.lst vs))) := Gr.mut e4 (fun z => z)
  have x2 : Xt pn H (upd H' p (.frz o (.lst vs))) := fun a w ha hn => by
    have ne : a ≠ p := ne_of_none ha e3
    rw [upd_ne ne]
    exact x1 a w ha hn
  have nown : ∀ (i : Nat) m, en[i]? = some (some (.own m)) → σ[i]? ≠ some (some (.ref p)) := fun i m hi z => by
    obtain ⟨b, us, h1, h2, _⟩ := g.own i m hi
    rw [z] at h1
    cases h1
    rw [e3] at h2
    cases h2
  have h0p : H0 p = none := by
    cases w : H0 p with
    | none => rfl
    | some z =>
      have := g.stay p z w (g.pen.ne e3)
      rw [e3] at this
      cases this
  refine ⟨v, upd H' p (.frz o (.lst vs)), I2, rv, q v _ y n' ⟨g1.len, fun i z hz => ?_, fun i m hm => ?_, g1.ne, fun a w ha hn => ?_, g1.pen.xt gr fun b hb => upd_ne fun z => g.pen.ne e3 (by rw [← z]; exact hb)⟩ x2 ?_ q1⟩
  · obtain ⟨w, h1, h2⟩ := g1.dat i z hz
    exact ⟨w, h1, h2.gr gr⟩
  · obtain ⟨b, us, h1, h2, h3, h4, h5⟩ := g1.own i m hm
    have ne : b ≠ p := by
      rintro rfl
      exact nown i m hm h1
    exact ⟨b, us, h1, by rw [upd_ne ne]; exact h2, h3.gr gr, h4, h5⟩
  · have ne : a ≠ p := ne_of_none ha h0p
    rw [upd_ne ne]
    exact g1.stay a w ha hn
  · subst e1 e2
    exact .lst ⟨o, upd_same⟩ (e5.gr gr)
/-- read at once -/
theorem pd_x {e : Expr} {t : TD} {k : Kd} (h : PD X pn H0 k e t) : PD X pn H0 .x e t := pe_wk h fun σ H Q ⟨en, n, Qd, g, ht, q⟩ =>
  ⟨en, n, Qd, g, ht, fun v H' y n' a b c d => q v H' y n' a b (c.rr g.pen).rx d⟩

/-! ### names, constants -/
def opt {α : Type} (o : Option α) (k : α → Prop) : Prop := match o with
  | some a => k a
  | none => False
theorem opt_some {α : Type} {o : Option α} {k : α → Prop} (h : opt o k) : ∃ a, o = some a ∧ k a := by
  cases o with
  | none => exact h.elim
  | some a => exact ⟨a, rfl, h⟩
def dVar (i : Nat) : TD := fun e n Q => match e[i]? with
  | some (some (.d x)) => Q x n
  | _ => False
def dOwn (i : Nat) : TD := fun e n Q => match e[i]? with
  | some (some (.own l)) => Q (.lst l) n
  | _ => False
def dC (x : D) : TD := fun _ n Q => Q x n
theorem pd_var (i : Nat) {x : Str} {pos : Pos} (hN : X.N[i]? = some x := by rfl) (hv : Vis X.env.scope x := by first | exact Or.inl rfl | exact Or.inr (Or.inl rfl) | exact Or.inr (Or.inr rfl)) (hd : (x == ("__debug__" : Str)) = false := by decide)
    (hcd : (x == ("__classdict__" : Str)) = false := by decide) : PD X pn H0 .m (.Name x pos) (dVar i) := pe_wk (pe_var hN hv hd hcd) fun σ H Q ⟨en, n, Qd, g, ht, q⟩ => by
  unfold dVar at ht
  split at ht
  · rename_i y hy
    obtain ⟨v, h1, h2⟩ := g.dat i y hy
    exact ⟨v, h1, q v H y n g (Xt.refl _ _) h2 ht⟩
  · exact ht.elim
theorem pd_own (i : Nat) {x : Str} {pos : Pos} (hN : X.N[i]? = some x := by rfl) (hv : Vis X.env.scope x := by first | exact Or.inl rfl | exact Or.inr (Or.inl rfl) | exact Or.inr (Or.inr rfl)) (hd : (x == ("__debug__" : Str)) = false := by decide)
    (hcd : (x == ("__classdict__" : Str)) = false := by decide) : PD X pn H0 .x (.Name x pos) (dOwn i) := pe_wk (pe_var hN hv hd hcd) fun σ H Q ⟨en, n, Qd, g, ht, q⟩ => by
  unfold dOwn at ht
  split at ht
  · rename_i l hl
    obtain ⟨a, vs, h1, h2, h3, h4, h5⟩ := g.own i l hl
    exact ⟨.ref a, h1, q (.ref a) H (.lst l) n g (Xt.refl _ _) (.inr ⟨a, vs, l, rfl, rfl, h2, h5, h3⟩) ht⟩
  · exact ht.elim
theorem pd_c {e : Expr} {v : V} {y : D} (h : PE X e (tC v)) (r : ∀ H, Rep pn X.K H v y) : PD X pn H0 .m e (dC y) := pe_wk h fun σ H Q ⟨en, n, Qd, g, ht, q⟩ => q v H y n g (Xt.refl _ _) (r H) ht
theorem pd_int {i j pos} : PD X pn H0 .m (.Constant (.int i) j pos) (dC (.int i)) := pd_c pe_int fun _ => .int i
theorem pd_bl {b j pos} : PD X pn H0 .m (.Constant (.bool b) j pos) (dC (.bl b)) := pd_c pe_bl fun _ => .bl b
theorem pd_non {j pos} : PD X pn H0 .m (.Constant .none j pos) (dC .non) := pd_c pe_non fun _ => .non
theorem pd_str {x j pos} : PD X pn H0 .m (.Constant (.str x) j pos) (dC (.str x)) := pd_c pe_str fun _ => .str x
/-- a number, a text, None, a bool that the module's top keeps -/
theorem pd_glob {x : Str} {v : V} {u : Value} {y : D} {pos : Pos} (hg : Gl X x) (hm : X.mg x = some u) (r : RelV v u) (ry : ∀ H, Rep pn X.K H v y) (hd : (x == ("__debug__" : Str)) = false := by decide) : PD X pn H0 .m (.Name x pos) (dC y) := pd_c (pe_glob hg hm r hd) ry

/-! ### operators -/
def d1 (f : D → Option D) (ta : TD) : TD := fun e n Q => ta e n fun x m => opt (f x) fun z => Q z m
def d2 (f : D → D → Option D) (ta tb : TD) : TD := fun e n Q => ta e n fun x n1 => tb e n1 fun y n2 => opt (f x y) fun z => Q z n2
/-- r does f, by what it reads and what it lays -/
def OpD (pn : Pw) (K : PySem.W.Frag) (ka kb k : Kd) (r : R2) (f : D → D → Option D) : Prop :=
  ∀ (H : Hp) (n : Nat) (v w : V) (x y z : D), PenOk pn K H n → RR ka pn K H v x → RR kb pn K H w y → f x y = some z →
    ∀ Q : VK, (∀ u H', Xt pn H H' → PenOk pn K H' n → RK k pn K H H' u z → Q u H') → r v w H Q
def UnD (pn : Pw) (K : PySem.W.Frag) (ka k : Kd) (r : V → Hp → VK → Prop) (f : D → Option D) : Prop :=
  ∀ (H : Hp) (n : Nat) (v : V) (x z : D), PenOk pn K H n → RR ka pn K H v x → f x = some z →
    ∀ Q : VK, (∀ u H', Xt pn H H' → PenOk pn K H' n → RK k pn K H H' u z → Q u H') → r v H Q
section
variable {a b : Expr} {ta tb : TD} {ka kb k : Kd} {pos : Pos}
theorem up_op {r : R2} {f : D → D → Option D} (hf : OpD pn X.K ka kb k r f) {σ : L2.St} {H : Hp} {Q : VK} (h : up pn H0 X.K k (d2 f ta tb) σ H Q) : tOp r (up pn H0 X.K ka ta) (up pn H0 X.K kb tb) σ H Q := by
  obtain ⟨en, n, Qd, g, ht, q⟩ := h
  refine ⟨en, n, _, g, ht, fun v H1 x n1 g1 x1 r1 h1 => ⟨en, n1, _, g1, h1, fun w H2 y n2 g2 x2 r2 h2 => ?_⟩⟩
  obtain ⟨z, hz, hq⟩ := opt_some h2
  refine hf H2 n2 v w x y z g2.pen ((r1.rr g.pen).xt x2 g1.pen) (r2.rr g1.pen) hz Q fun u H3 x3 p3 r3 => ?_
  exact q u H3 z n2 (g2.xt x3 p3) ((x1.trans x2).trans x3) (r3.back (x1.trans x2) g2.pen) hq
theorem pd_op {op : Operator} {r : R2} {f : D → D → Option D} (ho : OpR X (binaryOp op) r) (hf : OpD pn X.K ka kb k r f) (ha : PD X pn H0 ka a ta) (hb : PD X pn H0 kb b tb) : PD X pn H0 k (.BinOp a op b pos) (d2 f ta tb) :=
  pe_wk (pe_op ho ha hb) fun _ _ _ h => up_op hf h
theorem pd_cmp {op : CmpOp} {r : R2} {f : D → D → Option D} (ho : OpR X (compareOp op) r) (hf : OpD pn X.K ka kb k r f) (ha : PD X pn H0 ka a ta) (hb : PD X pn H0 kb b tb) (hm : behindInMarks op b = false := by first | exact nobehind _ (by decide) (by decide) | rfl) : PD X pn H0 k (.Compare a [op] [b] pos) (d2 f ta tb) :=
  pe_wk (pe_cmpR ho ha hb hm) fun _ _ _ h => up_op hf h
theorem up_un {r : V → Hp → VK → Prop} {f : D → Option D} (hf : UnD pn X.K ka k r f) {σ : L2.St} {H : Hp} {Q : VK} (h : up pn H0 X.K k (d1 f ta) σ H Q) : up pn H0 X.K ka ta σ H fun v H1 => r v H1 Q := by
  obtain ⟨en, n, Qd, g, ht, q⟩ := h
  refine ⟨en, n, _, g, ht, fun v H1 x n1 g1 x1 r1 h1 => ?_⟩
  obtain ⟨z, hz, hq⟩ := opt_some h1
  refine hf H1 n1 v x z g1.pen (r1.rr g.pen) hz Q fun u H3 x3 p3 r3 => ?_
  exact q u H3 z n1 (g1.xt x3 p3) (x1.trans x3) (r3.back x1 g1.pen) hq
theorem pd_un {op : UnaryOp} {r : V → Hp → VK → Prop} {f : D → Option D} (ho : UnR X (unaryOp op) r) (hf : UnD pn X.K ka k r f) (ha : PD X pn H0 ka a ta) : PD X pn H0 k (.UnaryOp op a pos) (d1 f ta) :=
  pe_wk (pe_un ho ha) fun _ _ _ h => up_un hf h
/-- a built-in of one argument -/
theorem pd_b1 {id : String} {x : Str} {p : Pos} {r : List V → Hp → VK → Prop} {f : D → Option D} (hc : CallR X (.builtin id) r) (hf : UnD pn X.K ka k (fun v H Q => r [v] H Q) f) (hg : Gl X x) (hm : X.mg x = none) (hv : bootBuiltins x = some (.builtin id)) (ha : PD X pn H0 ka a ta)
    (hn : x ≠ "__name__" := by decide) (hdb : (x == ("__debug__" : Str)) = false := by decide) (he : starEach (a :: []) X.env = (false, eval a X.env) :: starEach [] X.env := by rfl) (hpl : (backTo pos (starEach [] X.env)).any (·.1) = false := by rfl) :
    PD X pn H0 k (.Call (.Name x p) [a] [] pos) (d1 f ta) := pe_wk (pe_callB hc hg hm hv (pa_cons ha pa_nil he) hn hdb he hpl) fun _ _ _ h => up_un hf h
theorem pd_t1 {T : String} {x : Str} {p : Pos} {r : List V → Hp → VK → Prop} {f : D → Option D} (hc : CallR X (.type T) r) (hf : UnD pn X.K ka k (fun v H Q => r [v] H Q) f) (hg : Gl X x) (hm : X.mg x = none) (hv : bootBuiltins x = some (.type T)) (ha : PD X pn H0 ka a ta)
    (hn : x ≠ "__name__" := by decide) (hdb : (x == ("__debug__" : Str)) = false := by decide) (he : starEach (a :: []) X.env = (false, eval a X.env) :: starEach [] X.env := by rfl) (hpl : (backTo pos (starEach [] X.env)).any (·.1) = false := by rfl) :
    PD X pn H0 k (.Call (.Name x p) [a] [] pos) (d1 f ta) := pe_wk (pe_callTy hc hg hm hv (pa_cons ha pa_nil he) hn hdb he hpl) fun _ _ _ h => up_un hf h
theorem pd_b2 {id : String} {x : Str} {p : Pos} {r : List V → Hp → VK → Prop} {f : D → D → Option D} (hc : CallR X (.builtin id) r) (hf : OpD pn X.K ka kb k (fun v w H Q => r [v, w] H Q) f) (hg : Gl X x) (hm : X.mg x = none) (hv : bootBuiltins x = some (.builtin id)) (ha : PD X pn H0 ka a ta) (hb : PD X pn H0 kb b tb)
    (hn : x ≠ "__name__" := by decide) (hdb : (x == ("__debug__" : Str)) = false := by decide) (he : starEach (a :: b :: []) X.env = (false, eval a X.env) :: starEach (b :: []) X.env := by rfl) (he2 : starEach (b :: []) X.env = (false, eval b X.env) :: starEach [] X.env := by rfl)
    (hpl : (backTo pos (starEach (b :: []) X.env)).any (·.1) = false := by rfl) :
    PD X pn H0 k (.Call (.Name x p) [a, b] [] pos) (d2 f ta tb) := pe_wk (pe_callB hc hg hm hv (pa_cons ha (pa_cons hb pa_nil he2) he) hn hdb he hpl) fun _ _ _ h => up_op (r := fun v w H Q => r [v, w] H Q) hf h
end
end
end VD

set_option Elab.async false
set_option linter.all false
set_option maxRecDepth 100000
set_option maxHeartbeats 4000000
namespace VD
open PySem L2

section
variable {pn : Pw} {K : PySem.W.Frag} {H : Hp} {n : Nat} {v : V} {y : D}
theorem RepX.int {i : Int} (r : RepX pn K H v (.int i)) : v = .int i := by
  rcases r with r | ⟨_, _, _, _, e, _⟩
  · cases r
    rfl
  · cases e
theorem RepX.str {x : Str} (r : RepX pn K H v (.str x)) : v = .str x := by
  rcases r with r | ⟨_, _, _, _, e, _⟩
  · cases r
    rfl
  · cases e
theorem RepX.bl {b : Bool} (r : RepX pn K H v (.bl b)) : v = .bl b := by
  rcases r with r | ⟨_, _, _, _, e, _⟩
  · cases r
    rfl
  · cases e
theorem RepX.non (r : RepX pn K H v .non) : v = .non := by
  rcases r with r | ⟨_, _, _, _, e, _⟩
  · cases r
    rfl
  · cases e
theorem RepX.tup {l : List D} (r : RepX pn K H v (.tup l)) : ∃ a vs, v = .ref a ∧ SqT K H a vs ∧ Reps pn K H vs l := by
  rcases r with r | ⟨_, _, _, _, e, _⟩
  · cases r with
    | tup h1 h2 => exact ⟨_, _, rfl, h1, h2⟩
  · cases e
theorem RepX.lst {l : List D} (r : RepX pn K H v (.lst l)) : ∃ a vs, v = .ref a ∧ SqL K H a vs ∧ Reps pn K H vs l := by
  rcases r with r | ⟨a, vs, m, e1, e2, h, _, r⟩
  · cases r with
    | lst h1 h2 => exact ⟨_, _, rfl, h1.sq, h2⟩
  · cases e2
    exact ⟨a, vs, e1, SqL.of h, r⟩
theorem RepX.ro {l : List D} (r : RepX pn K H v (.ro l)) : ∃ a vs, v = .ref a ∧ SqL K H a vs ∧ Reps pn K H vs l := by
  rcases r with r | ⟨a, vs, m, e1, e2, h, _, r⟩
  · cases r with
    | ro h1 h2 => exact ⟨_, _, rfl, h1.sq, h2⟩
  · cases e2
/-- a list that is read, as it is tracked -/
def TrL (H : Hp) (a : Addr) (xs : List V) : Prop := H a = some (.lst xs) ∨ ∃ o, H a = some (.frz o (.lst xs))
theorem TrL.sq {K : PySem.W.Frag} {H : Hp} {a : Addr} {xs : List V} (h : TrL H a xs) : SqL K H a xs := by
  rcases h with h | ⟨o, h⟩
  · exact SqL.of h
  · exact .inl (.inr ⟨o, h⟩)
theorem RepX.trl {l : List D} (r : RepX pn K H v (.lst l)) : ∃ a vs, v = .ref a ∧ TrL H a vs ∧ Reps pn K H vs l := by
  rcases r with r | ⟨a, vs, m, e1, e2, h, _, r⟩
  · cases r with
    | lst h1 h2 => exact ⟨_, _, rfl, .inr h1, h2⟩
  · cases e2
    exact ⟨a, vs, e1, .inl h, r⟩
/-! to the data of the library -/
mutual
def toP : D → Option PyData
  | .non => some .none
  | .bl b => some (.bool b)
  | .int i => some (.int i)
  | .str x => some (.str x)
  | .tup l => (toPs l).map .tuple
  | .lst l => (toPs l).map .list
  | .dct _ _ => none
  | .pen => none
  | .exc _ _ _ => none
  | .ro _ => none
def toPs : List D → Option (List PyData)
  | [] => some []
  | x :: l => match toP x, toPs l with
    | some p, some ps => some (p :: ps)
    | _, _ => none
end
mutual
theorem Rep.dp : ∀ {v : V} {y : D} {p : PyData}, Rep pn K H v y → toP y = some p → Dp K H v p
  | _, _, _, .non, e => by unfold toP at e; cases e; exact .non
  | _, _, _, .bl b, e => by unfold toP at e; cases e; exact .bl b
  | _, _, _, .int i, e => by unfold toP at e; cases e; exact .int i
  | _, _, _, .str x, e => by unfold toP at e; cases e; exact .str x
  | _, _, _, .tup (l := l) h r, e => by
    unfold toP at e
    cases q : toPs l with
    | none => rw [q] at e; cases e
    | some ps =>
      rw [q] at e
      cases e
      exact .tup h (Reps.dp r q)
  | _, _, _, .lst (l := l) h r, e => by
    unfold toP at e
    cases q : toPs l with
    | none => rw [q] at e; cases e
    | some ps =>
      rw [q] at e
      cases e
      exact .lst h.sq (Reps.dp r q)
  | _, _, _, .pen _, e => by unfold toP at e; cases e
  | _, _, _, .exc0 _, e => by unfold toP at e; cases e
  | _, _, _, .exc1 _ _ _, e => by unfold toP at e; cases e
  | _, _, _, .ro _ _, e => by unfold toP at e; cases e
theorem Reps.dp : ∀ {vs : List V} {l : List D} {ps : List PyData}, Reps pn K H vs l → toPs l = some ps → DpAll K H vs ps
  | _, _, _, .nil, e => by unfold toPs at e; cases e; exact .nil
  | _, _, _, .cons (x := x) (l := l) r t, e => by
    unfold toPs at e
    cases q1 : toP x with
    | none => rw [q1] at e; cases e
    | some p =>
      cases q2 : toPs l with
      | none => rw [q1, q2] at e; cases e
      | some ps =>
        rw [q1, q2] at e
        cases e
        exact .cons (Rep.dp r q1) (Reps.dp t q2)
end
theorem RepX.dp {p : PyData} (r : RepX pn K H v y) (e : toP y = some p) : Dp K H v p := by
  rcases r with r | ⟨a, vs, m, e1, e2, h, _, r⟩
  · exact r.dp e
  · subst e1 e2
    unfold toP at e
    cases q : toPs m with
    | none => rw [q] at e; cases e
    | some ps =>
      rw [q] at e
      cases e
      exact .lst (SqL.of h) (r.dp q)
end

/-! ### whole numbers -/
def fI (g : Int → Int → D) : D → D → Option D
  | .int i, .int j => some (g i j)
  | _, _ => none
def fIc (C : Int → Int → Bool) (g : Int → Int → D) : D → D → Option D
  | .int i, .int j => if C i j then some (g i j) else none
  | _, _ => none
theorem fI_some {g : Int → Int → D} {x y z : D} (h : fI g x y = some z) : ∃ i j, x = .int i ∧ y = .int j ∧ z = g i j := by
  unfold fI at h
  split at h
  · cases h
    exact ⟨_, _, rfl, rfl, rfl⟩
  · cases h
theorem fIc_some {C : Int → Int → Bool} {g : Int → Int → D} {x y z : D} (h : fIc C g x y = some z) : ∃ i j, x = .int i ∧ y = .int j ∧ C i j = true ∧ z = g i j := by
  unfold fIc at h
  split at h
  · rename_i i j
    cases c : C i j with
    | true =>
      rw [c] at h
      cases h
      exact ⟨_, _, rfl, rfl, c, rfl⟩
    | false =>
      rw [c] at h
      cases h
  · cases h
section
variable {pn : Pw} {K : PySem.W.Frag} {ka kb : Kd}
theorem od_I {g : Int → Int → V} {g' : Int → Int → D} (r : ∀ H i j, Rep pn K H (g i j) (g' i j)) : OpD pn K ka kb .m (rI0 g) (fI g') := fun H n v w x y z hp h1 h2 e Q q => by
  obtain ⟨i, j, rfl, rfl, rfl⟩ := fI_some e
  exact ⟨i, j, h1.rx.int, h2.rx.int, q _ H (Xt.refl _ _) hp (r H i j)⟩
theorem od_Ic {P : Int → Int → Prop} {C : Int → Int → Bool} {g : Int → Int → V} {g' : Int → Int → D} (hC : ∀ i j, C i j = true → P i j) (r : ∀ H i j, Rep pn K H (g i j) (g' i j)) : OpD pn K ka kb .m (rI P g) (fIc C g') := fun H n v w x y z hp h1 h2 e Q q => by
  obtain ⟨i, j, rfl, rfl, c, rfl⟩ := fIc_some e
  exact ⟨i, j, h1.rx.int, h2.rx.int, hC i j c, q _ H (Xt.refl _ _) hp (r H i j)⟩
end
instance {i j : Int} : Decidable (CMul i j) := by unfold CMul; infer_instance
instance {i j : Int} : Decidable (CDiv i j) := by unfold CDiv; infer_instance
instance {i j : Int} : Decidable (CPow i j) := by unfold CPow; infer_instance
def fAdd := fI fun i j => .int (i + j)
def fSub := fI fun i j => .int (i - j)
def fMul := fIc (fun i j => decide (CMul i j)) fun i j => .int (i * j)
def fMod := fIc (fun _ j => decide (0 < j)) fun i j => .int (i % j)
def fDiv := fIc (fun i j => decide (CDiv i j)) fun i j => .int (i / j)
def fPow := fIc (fun i j => decide (CPow i j)) fun i j => .int (i ^ j.toNat)
def fLt := fI fun i j => .bl (decide (i < j))
def fLe := fI fun i j => .bl (decide (i ≤ j))
def fGt := fI fun i j => .bl (decide (j < i))
def fGe := fI fun i j => .bl (decide (j ≤ i))
/-- an operator's rule over data, whatever its operands are read from -/
def OpP (X : Cx) (pn : Pw) (op : CmpOp) (f : D → D → Option D) : Prop := ∃ r : R2, OpR X (compareOp op) r ∧ ∀ ka kb, OpD pn X.K ka kb .m r f
def OpB (X : Cx) (pn : Pw) (op : Operator) (k : Kd) (f : D → D → Option D) : Prop := ∃ r : R2, OpR X (binaryOp op) r ∧ ∀ ka kb, OpD pn X.K ka kb k r f
section
variable {X : Cx} {pn : Pw} {H0 : Hp}
theorem ob_add : OpB X pn .Add .m fAdd := ⟨_, op_add, fun _ _ => od_I fun _ _ _ => .int _⟩
theorem ob_sub : OpB X pn .Sub .m fSub := ⟨_, op_sub, fun _ _ => od_I fun _ _ _ => .int _⟩
theorem ob_mul : OpB X pn .Mult .m fMul := ⟨_, op_mul, fun _ _ => od_Ic (fun _ _ h => of_decide_eq_true h) fun _ _ _ => .int _⟩
theorem ob_mod : OpB X pn .Mod .m fMod := ⟨_, op_mod, fun _ _ => od_Ic (fun _ _ h => of_decide_eq_true h) fun _ _ _ => .int _⟩
theorem ob_div : OpB X pn .FloorDiv .m fDiv := ⟨_, op_fdiv, fun _ _ => od_Ic (fun _ _ h => of_decide_eq_true h) fun _ _ _ => .int _⟩
theorem ob_pow : OpB X pn .Pow .m fPow := ⟨_, op_pow, fun _ _ => od_Ic (fun _ _ h => of_decide_eq_true h) fun _ _ _ => .int _⟩
theorem oc_lt : OpP X pn .Lt fLt := ⟨_, op_lt, fun _ _ => od_I fun _ _ _ => .bl _⟩
theorem oc_le : OpP X pn .LtE fLe := ⟨_, op_le, fun _ _ => od_I fun _ _ _ => .bl _⟩
theorem oc_gt : OpP X pn .Gt fGt := ⟨_, op_gt, fun _ _ => od_I fun _ _ _ => .bl _⟩
theorem oc_ge : OpP X pn .GtE fGe := ⟨_, op_ge, fun _ _ => od_I fun _ _ _ => .bl _⟩
def fNeg : D → Option D
  | .int i => some (.int (-i))
  | _ => none
theorem pd_neg {a : Expr} {ta : TD} {pos : Pos} (ha : PD X pn H0 .m a ta) : PD X pn H0 .m (.UnaryOp .USub a pos) (d1 fNeg ta) := pd_un un_neg (fun H n v x z hp h1 e Q q => by
  unfold fNeg at e
  split at e
  · cases e
    exact ⟨_, h1.rx.int, q _ H (Xt.refl _ _) hp (.int _)⟩
  · cases e) ha

/-! ### == of data, in, is None -/
def fEq (x y : D) : Option D := match toP x, toP y with
  | some p, some q => if SeqAt.shaped p && SeqAt.shaped q then some (.bl (PyData.eqv p q)) else none
  | _, _ => none
def fNe (x y : D) : Option D := match toP x, toP y with
  | some p, some q => if SeqAt.shaped p && SeqAt.shaped q then some (.bl (!PyData.eqv p q)) else none
  | _, _ => none
theorem fEq_some {x y z : D} (h : fEq x y = some z) : ∃ p q, toP x = some p ∧ toP y = some q ∧ SeqAt.shaped p = true ∧ SeqAt.shaped q = true ∧ z = .bl (PyData.eqv p q) := by
  unfold fEq at h
  split at h
  · rename_i p q e1 e2
    cases c : SeqAt.shaped p && SeqAt.shaped q with
    | false =>
      rw [c] at h
      cases h
    | true =>
      rw [c] at h
      cases h
      rw [Bool.and_eq_true] at c
      exact ⟨p, q, e1, e2, c.1, c.2, rfl⟩
  · cases h
theorem fNe_some {x y z : D} (h : fNe x y = some z) : ∃ p q, toP x = some p ∧ toP y = some q ∧ SeqAt.shaped p = true ∧ SeqAt.shaped q = true ∧ z = .bl (!PyData.eqv p q) := by
  unfold fNe at h
  split at h
  · rename_i p q e1 e2
    cases c : SeqAt.shaped p && SeqAt.shaped q with
    | false =>
      rw [c] at h
      cases h
    | true =>
      rw [c] at h
      cases h
      rw [Bool.and_eq_true] at c
      exact ⟨p, q, e1, e2, c.1, c.2, rfl⟩
  · cases h
theorem oc_eq {kr : Nat} (hr : Room kr X.A) : OpP X pn .Eq fEq := ⟨_, op_eqD hr.units, fun _ _ H n v w x y z hp h1 h2 e Q q => by
  obtain ⟨p, p', e1, e2, s1, s2, rfl⟩ := fEq_some e
  exact ⟨p, p', h1.rx.dp e1, h2.rx.dp e2, s1, s2, q _ H (Xt.refl _ _) hp (.bl _)⟩⟩
theorem oc_ne {kr : Nat} (hr : Room kr X.A) : OpP X pn .NotEq fNe := ⟨_, op_neD hr.units, fun _ _ H n v w x y z hp h1 h2 e Q q => by
  obtain ⟨p, p', e1, e2, s1, s2, rfl⟩ := fNe_some e
  exact ⟨p, p', h1.rx.dp e1, h2.rx.dp e2, s1, s2, q _ H (Xt.refl _ _) hp (.bl _)⟩⟩
def isNon : D → Bool
  | .non => true
  | _ => false
def fIsN : D → D → Option D
  | x, .non => some (.bl (isNon x))
  | _, _ => none
def fNotN : D → D → Option D
  | x, .non => some (.bl (!isNon x))
  | _, _ => none
theorem RepX.isNon {pn : Pw} {K : PySem.W.Frag} {H : Hp} {v : V} {x : D} (r : RepX pn K H v x) : decide (v = .non) = VD.isNon x := by
  rcases r with r | ⟨_, _, _, rfl, rfl, _⟩
  · cases r <;> rfl
  · rfl
theorem oc_isN : OpP X pn .Is fIsN := ⟨_, op_isN, fun _ _ H n v w x y z hp h1 h2 e Q q => by
  unfold fIsN at e
  split at e
  · cases e
    refine ⟨RepX.non (RR.rx h2), ?_⟩
    rw [RepX.isNon h1.rx]
    exact q _ H (Xt.refl _ _) hp (.bl _)
  · cases e⟩
theorem oc_notN : OpP X pn .IsNot fNotN := ⟨_, op_notN, fun _ _ H n v w x y z hp h1 h2 e Q q => by
  unfold fNotN at e
  split at e
  · cases e
    refine ⟨RepX.non (RR.rx h2), ?_⟩
    rw [RepX.isNon h1.rx]
    exact q _ H (Xt.refl _ _) hp (.bl _)
  · cases e⟩
def inL (x : D) (l : List D) : Option Bool := match toP x, toPs l with
  | some p, some ps => if SeqAt.shaped p && SeqAt.shaped (.list ps) then some (ps.any fun z => PyData.eqv z p) else none
  | _, _ => none
def inP (x y : D) : Option Bool := match y with
  | .lst l => inL x l
  | .tup l => inL x l
  | _ => none
def fIn (x y : D) : Option D := (inP x y).map .bl
def fNotIn (x y : D) : Option D := (inP x y).map fun b => .bl (!b)
theorem toP_lst {l : List D} {ps : List PyData} (h : toPs l = some ps) : toP (.lst l) = some (.list ps) := by
  unfold toP
  rw [h]
  rfl
theorem toP_tup {l : List D} {ps : List PyData} (h : toPs l = some ps) : toP (.tup l) = some (.tuple ps) := by
  unfold toP
  rw [h]
  rfl
theorem inL_some {x : D} {l : List D} {b : Bool} (h : inL x l = some b) : ∃ p ps, toP x = some p ∧ toPs l = some ps ∧ SeqAt.shaped p = true ∧ SeqAt.shaped (.list ps) = true ∧ b = ps.any fun z => PyData.eqv z p := by
  unfold inL at h
  split at h
  · rename_i p ps e1 e2
    cases c : SeqAt.shaped p && SeqAt.shaped (.list ps) with
    | false =>
      rw [c] at h
      cases h
    | true =>
      rw [c] at h
      cases h
      rw [Bool.and_eq_true] at c
      exact ⟨p, ps, e1, e2, c.1, c.2, rfl⟩
  · cases h
theorem inP_some {x y : D} {b : Bool} (h : inP x y = some b) : ∃ p ps, toP x = some p ∧ (toP y = some (.list ps) ∨ toP y = some (.tuple ps)) ∧ SeqAt.shaped p = true ∧ SeqAt.shaped (.list ps) = true ∧ b = ps.any fun z => PyData.eqv z p := by
  unfold inP at h
  split at h
  · obtain ⟨p, ps, a1, a2, a3, a4, a5⟩ := inL_some h
    exact ⟨p, ps, a1, .inl (toP_lst a2), a3, a4, a5⟩
  · obtain ⟨p, ps, a1, a2, a3, a4, a5⟩ := inL_some h
    exact ⟨p, ps, a1, .inr (toP_tup a2), a3, a4, a5⟩
  · cases h
def rInX (K : PySem.W.Frag) (f : Bool → Bool) : R2 := fun x y H Q => ∃ d ds, Dp K H x d ∧ (Dp K H y (.list ds) ∨ Dp K H y (.tuple ds)) ∧ SeqAt.shaped d = true ∧ SeqAt.shaped (.list ds) = true ∧ Q (.bl (f (ds.any fun z => PyData.eqv z d))) H
theorem op_inX (hu : X.A.units + 65 < cLine) : OpR X (compareOp .In) (rInX X.K id) := by
  intro pins s σ H x y v u Q I rx ry ⟨d, ds, hd, he, sd, se, q⟩
  obtain ⟨as, r1⟩ := Dp.reads I d x v hd rx
  rcases he with he | he
  · obtain ⟨bs, r2⟩ := Dp.reads I (.list ds) y u he ry
    exact SeqAt.in_list_reads r2 r1 (SeqAt.canLay_of_shaped se) (SeqAt.canLay_of_shaped sd) (PyProof.Rows.room_in_shaped sd hu) ⟨.bl _, H, I, rfl, q⟩
  · obtain ⟨bs, r2⟩ := Dp.reads I (.tuple ds) y u he ry
    exact SeqAt.in_tuple_reads r2 r1 (SeqAt.canLay_of_shaped se) (SeqAt.canLay_of_shaped sd) (PyProof.Rows.room_in_shaped sd hu) ⟨.bl _, H, I, rfl, q⟩
theorem op_notInX (hu : X.A.units + 65 < cLine) : OpR X (compareOp .NotIn) (rInX X.K not) := by
  intro pins s σ H x y v u Q I rx ry ⟨d, ds, hd, he, sd, se, q⟩
  obtain ⟨as, r1⟩ := Dp.reads I d x v hd rx
  rcases he with he | he
  · obtain ⟨bs, r2⟩ := Dp.reads I (.list ds) y u he ry
    exact SeqAt.notIn_list_reads r2 r1 (SeqAt.canLay_of_shaped se) (SeqAt.canLay_of_shaped sd) (PyProof.Rows.room_in_shaped sd hu) ⟨.bl _, H, I, rfl, q⟩
  · obtain ⟨bs, r2⟩ := Dp.reads I (.tuple ds) y u he ry
    exact SeqAt.notIn_tuple_reads r2 r1 (SeqAt.canLay_of_shaped se) (SeqAt.canLay_of_shaped sd) (PyProof.Rows.room_in_shaped sd hu) ⟨.bl _, H, I, rfl, q⟩
theorem dp_or {pn : Pw} {K : PySem.W.Frag} {H : Hp} {w : V} {y : D} {ps : List PyData} (r : RepX pn K H w y) (h : toP y = some (.list ps) ∨ toP y = some (.tuple ps)) : Dp K H w (.list ps) ∨ Dp K H w (.tuple ps) := by
  rcases h with h | h
  · exact .inl (r.dp h)
  · exact .inr (r.dp h)
theorem oc_in {kr : Nat} (hr : Room kr X.A) : OpP X pn .In fIn := ⟨_, op_inX (by have := hr.un; omega), fun _ _ H n v w x y z hp h1 h2 e Q q => by
  unfold fIn at e
  obtain ⟨b, e0, rfl⟩ := Option.map_eq_some_iff.mp e
  obtain ⟨p, ps, e1, e2, s1, s2, rfl⟩ := inP_some e0
  exact ⟨p, ps, h1.rx.dp e1, dp_or h2.rx e2, s1, s2, q _ H (Xt.refl _ _) hp (.bl _)⟩⟩
theorem oc_notIn {kr : Nat} (hr : Room kr X.A) : OpP X pn .NotIn fNotIn := ⟨_, op_notInX (by have := hr.un; omega), fun _ _ H n v w x y z hp h1 h2 e Q q => by
  unfold fNotIn at e
  obtain ⟨b, e0, rfl⟩ := Option.map_eq_some_iff.mp e
  obtain ⟨p, ps, e1, e2, s1, s2, rfl⟩ := inP_some e0
  exact ⟨p, ps, h1.rx.dp e1, dp_or h2.rx e2, s1, s2, q _ H (Xt.refl _ _) hp (.bl _)⟩⟩
end

section
variable {X : Cx} {pn : Pw} {H0 : Hp} {ka kb kc k : Kd} {a b c : Expr} {ta tb tc : TD} {pos : Pos}
theorem pd_bin {op : Operator} {f : D → D → Option D} (o : OpB X pn op k f) (ha : PD X pn H0 ka a ta) (hb : PD X pn H0 kb b tb) : PD X pn H0 k (.BinOp a op b pos) (d2 f ta tb) := by
  obtain ⟨r, h1, h2⟩ := o
  exact pd_op h1 (h2 ka kb) ha hb
theorem pd_co {op : CmpOp} {f : D → D → Option D} (o : OpP X pn op f) (ha : PD X pn H0 ka a ta) (hb : PD X pn H0 kb b tb) (hm : behindInMarks op b = false := by first | exact nobehind _ (by decide) (by decide) | rfl) : PD X pn H0 .m (.Compare a [op] [b] pos) (d2 f ta tb) := by
  obtain ⟨r, h1, h2⟩ := o
  exact pd_cmp h1 (h2 ka kb) ha hb hm

/-! ### tests -/
def asB : D → Option Bool
  | .bl b => some b
  | _ => none
theorem asB_some {x : D} {b : Bool} (h : asB x = some b) : x = .bl b := by
  unfold asB at h
  split at h
  · cases h
    rfl
  · cases h
/-- a value that is True or False, as a test -/
def dT (t : TD) : TTD := fun e n Q => t e n fun x m => opt (asB x) fun b => Q b m
theorem pdt_co {op : CmpOp} {f : D → D → Option D} (o : OpP X pn op f) (ha : PD X pn H0 ka a ta) (hb : PD X pn H0 kb b tb) (hm : behindInMarks op b = false := by first | exact nobehind _ (by decide) (by decide) | rfl) : PDT X pn H0 (.Compare a [op] [b] pos) (dT (d2 f ta tb)) := by
  obtain ⟨r, h1, h2⟩ := o
  refine pt_wk (pt_cmpR h1 ha hb hm) fun σ H Q h => ?_
  obtain ⟨e, n, Qd, g, ht, q⟩ := h
  refine up_op (k := .m) (h2 ka kb) ⟨e, n, _, g, ht, fun v H' y n' g' x' r' h' => ?_⟩
  obtain ⟨bb, e1, e2⟩ := opt_some h'
  have := asB_some e1
  subst this
  exact ⟨bb, RepX.bl (.inl r'), q bb H' n' g' x' e2⟩
/-- truth -/
def tru : D → Option Bool
  | .non => some false
  | .bl b => some b
  | .int i => some (i != 0)
  | .lst l => some (!l.isEmpty)
  | .tup l => some (!l.isEmpty)
  | _ => none
def dTr (t : TD) : TTD := fun e n Q => t e n fun x m => opt (tru x) fun b => Q b m
theorem isEmpty_of {pn : Pw} {K : PySem.W.Frag} {H : Hp} {vs : List V} {l : List D} (r : Reps pn K H vs l) : vs.isEmpty = l.isEmpty := by
  cases r <;> rfl
theorem RepX.tru {pn : Pw} {K : PySem.W.Frag} {H : Hp} {v : V} {x : D} {b : Bool} (r : RepX pn K H v x) (e : VD.tru x = some b) : TruV K v H b := by
  cases x with
  | non =>
    cases e
    rw [RepX.non r]
    rfl
  | bl c =>
    cases e
    rw [RepX.bl r]
    rfl
  | int i =>
    cases e
    rw [RepX.int r]
    rfl
  | str z => cases e
  | tup l =>
    cases e
    obtain ⟨c, vs, rfl, h1, h2⟩ := RepX.tup r
    exact .inr (.inl ⟨vs, h1, by rw [isEmpty_of h2]⟩)
  | lst l =>
    cases e
    obtain ⟨c, vs, rfl, h1, h2⟩ := RepX.lst r
    exact .inl ⟨vs, h1, by rw [isEmpty_of h2]⟩
  | dct ks vs => cases e
  | pen => cases e
  | exc C fl k => cases e
  | ro l => cases e
theorem pdt_tr (ha : PD X pn H0 ka a ta) (he : ∀ whole, isTrue a X.env whole = (do let v ← whole; standAt a.pos; holding [v] (truthy v)) := by intro _; rfl) : PDT X pn H0 a (dTr ta) := by
  refine pt_wk (pt_truth ha he) fun σ H Q ⟨e, n, Qd, g, ht, q⟩ => ⟨e, n, _, g, ht, fun v H' y n' g' x' r' h' => ?_⟩
  obtain ⟨b, e1, e2⟩ := opt_some h'
  exact ⟨b, RepX.tru (RR.rx (r'.rr g.pen)) e1, q b H' n' g' x' e2⟩
def dNotT (t : TTD) : TTD := fun e n Q => t e n fun b m => Q (!b) m
def dAndT (t u : TTD) : TTD := fun e n Q => t e n fun b m => if b = true then u e m Q else Q false m
def dOrT (t u : TTD) : TTD := fun e n Q => t e n fun b m => if b = true then Q true m else u e m Q
theorem pdt_not {t : TTD} (h : PDT X pn H0 a t) : PDT X pn H0 (.UnaryOp .Not a pos) (dNotT t) :=
  pt_wk (pt_not h) fun σ H Q ⟨e, n, Qd, g, ht, q⟩ => ⟨e, n, _, g, ht, fun b H' n' g' x' h' => q (!b) H' n' g' x' h'⟩
abbrev PDW (X : Cx) (pn : Pw) (H0 : Hp) (e : Expr) (t : TTD) : Prop := PW X e (upT pn H0 X.K t)
theorem pdw_and1 {t : TTD} (h : PDT X pn H0 a t) : PDW X pn H0 (.BoolOp .And [a] pos) t := pw_and1 h
theorem pdw_or1 {t : TTD} (h : PDT X pn H0 a t) : PDW X pn H0 (.BoolOp .Or [a] pos) t := pw_or1 h
theorem pdw_and {t u : TTD} {rest : List Expr} (h : PDT X pn H0 a t) (hr : PDW X pn H0 (.BoolOp .And (b :: rest) pos) u) : PDW X pn H0 (.BoolOp .And (a :: b :: rest) pos) (dAndT t u) :=
  pw_wk (pw_and h hr) fun σ H Q ⟨e, n, Qd, g, ht, q⟩ => ⟨e, n, _, g, ht, fun c H' n' g' x' h' => by
    cases c with
    | true =>
      rw [if_pos rfl] at h' ⊢
      exact ⟨e, n', Qd, g', h', fun d H2 m g2 x2 q2 => q d H2 m g2 (x'.trans x2) q2⟩
    | false =>
      rw [if_neg Bool.false_ne_true] at h' ⊢
      exact q false H' n' g' x' h'⟩
theorem pdw_or {t u : TTD} {rest : List Expr} (h : PDT X pn H0 a t) (hr : PDW X pn H0 (.BoolOp .Or (b :: rest) pos) u) : PDW X pn H0 (.BoolOp .Or (a :: b :: rest) pos) (dOrT t u) :=
  pw_wk (pw_or h hr) fun σ H Q ⟨e, n, Qd, g, ht, q⟩ => ⟨e, n, _, g, ht, fun c H' n' g' x' h' => by
    cases c with
    | true =>
      rw [if_pos rfl] at h' ⊢
      exact q true H' n' g' x' h'
    | false =>
      rw [if_neg Bool.false_ne_true] at h' ⊢
      exact ⟨e, n', Qd, g', h', fun d H2 m g2 x2 q2 => q d H2 m g2 (x'.trans x2) q2⟩⟩
/-! as values, all but the last True or False -/
def dAnd (t u : TD) : TD := fun e n Q => t e n fun x m => opt (asB x) fun b => if b = true then u e m Q else Q (.bl false) m
def dOr (t u : TD) : TD := fun e n Q => t e n fun x m => opt (asB x) fun b => if b = true then Q (.bl true) m else u e m Q
def dNot (t : TD) : TD := fun e n Q => t e n fun x m => opt (asB x) fun b => Q (.bl (!b)) m
theorem pd_one {op : BoolOp} {t : TD} (h : PD X pn H0 k a t) : PD X pn H0 k (.BoolOp op [a] pos) t := pe_one h
theorem pd_and {rest : List Expr} (ha : PD X pn H0 .m a ta) (hb : PD X pn H0 .m (.BoolOp .And (b :: rest) pos) tb) : PD X pn H0 .m (.BoolOp .And (a :: b :: rest) pos) (dAnd ta tb) :=
  pe_wk (pe_and ha hb) fun σ H Q ⟨e, n, Qd, g, ht, q⟩ => ⟨e, n, _, g, ht, fun v H' y n' g' x' r' h' => by
    obtain ⟨c, e1, e2⟩ := opt_some h'
    have := asB_some e1
    subst this
    refine ⟨c, RepX.bl (.inl r'), ?_⟩
    cases c with
    | true =>
      rw [if_pos rfl] at e2 ⊢
      exact ⟨e, n', Qd, g', e2, fun w H2 z m g2 x2 r2 q2 => q w H2 z m g2 (x'.trans x2) r2 q2⟩
    | false =>
      rw [if_neg Bool.false_ne_true] at e2 ⊢
      exact q _ H' _ n' g' x' (.bl _) e2⟩
theorem pd_or {rest : List Expr} (ha : PD X pn H0 .m a ta) (hb : PD X pn H0 .m (.BoolOp .Or (b :: rest) pos) tb) : PD X pn H0 .m (.BoolOp .Or (a :: b :: rest) pos) (dOr ta tb) :=
  pe_wk (pe_or ha hb) fun σ H Q ⟨e, n, Qd, g, ht, q⟩ => ⟨e, n, _, g, ht, fun v H' y n' g' x' r' h' => by
    obtain ⟨c, e1, e2⟩ := opt_some h'
    have := asB_some e1
    subst this
    refine ⟨c, RepX.bl (.inl r'), ?_⟩
    cases c with
    | true =>
      rw [if_pos rfl] at e2 ⊢
      exact q _ H' _ n' g' x' (.bl _) e2
    | false =>
      rw [if_neg Bool.false_ne_true] at e2 ⊢
      exact ⟨e, n', Qd, g', e2, fun w H2 z m g2 x2 r2 q2 => q w H2 z m g2 (x'.trans x2) r2 q2⟩⟩
theorem pd_not (ha : PD X pn H0 .m a ta) : PD X pn H0 .m (.UnaryOp .Not a pos) (dNot ta) :=
  pe_wk (pe_not ha) fun σ H Q ⟨e, n, Qd, g, ht, q⟩ => ⟨e, n, _, g, ht, fun v H' y n' g' x' r' h' => by
    obtain ⟨c, e1, e2⟩ := opt_some h'
    have := asB_some e1
    subst this
    exact ⟨c, RepX.bl (.inl r'), q _ H' _ n' g' x' (.bl _) e2⟩⟩
def dIf (t : TTD) (ta tb : TD) : TD := fun e n Q => t e n fun b m => if b = true then ta e m Q else tb e m Q
theorem pd_if {t : TTD} (hc : PDT X pn H0 c t) (ha : PD X pn H0 k a ta) (hb : PD X pn H0 k b tb) : PD X pn H0 k (.IfExp c a b pos) (dIf t ta tb) :=
  pe_wk (pe_ifExp hc ha hb) fun σ H Q ⟨e, n, Qd, g, ht, q⟩ => ⟨e, n, _, g, ht, fun d H' n' g' x' h' => by
    cases d with
    | true =>
      rw [if_pos rfl] at h' ⊢
      exact ⟨e, n', Qd, g', h', fun w H2 z m g2 x2 r2 q2 => q w H2 z m g2 (x'.trans x2) (r2.back x' g'.pen) q2⟩
    | false =>
      rw [if_neg Bool.false_ne_true] at h' ⊢
      exact ⟨e, n', Qd, g', h', fun w H2 z m g2 x2 r2 q2 => q w H2 z m g2 (x'.trans x2) (r2.back x' g'.pen) q2⟩⟩
/-! a < b < c -/
def dCh (f f' : D → D → Option D) (ta tb tc : TD) : TD := fun e n Q => ta e n fun x n1 => tb e n1 fun y n2 => opt (f x y) fun z => opt (asB z) fun k =>
  if k = true then tc e n2 fun w n3 => opt (f' y w) fun z' => Q z' n3 else Q (.bl false) n2
theorem up_ch {r r' : R2} {f f' : D → D → Option D} (h1 : OpD pn X.K ka kb .m r f) (h2 : OpD pn X.K kb kc .m r' f') {σ : L2.St} {H : Hp} {Q : VK} (h : up pn H0 X.K .m (dCh f f' ta tb tc) σ H Q) : tChain r r' (up pn H0 X.K ka ta) (up pn H0 X.K kb tb) (up pn H0 X.K kc tc) σ H Q := by
  obtain ⟨en, n, Qd, g, ht, q⟩ := h
  refine ⟨en, n, _, g, ht, fun v H1 x n1 g1 x1 r1 q1 => ⟨en, n1, _, g1, q1, fun w H2 y n2 g2 x2 r2 q2 => ?_⟩⟩
  obtain ⟨z, hz, q3⟩ := opt_some q2
  obtain ⟨k, hk, q4⟩ := opt_some q3
  have hz' := asB_some hk
  subst hz'
  clear q2 q3
  have q2 := q4
  clear q4
  refine h1 H2 n2 v w x y _ g2.pen ((r1.rr g.pen).xt x2 g1.pen) (r2.rr g1.pen) hz _ fun u H3 x3 p3 r3 => ⟨k, RepX.bl (.inl r3), ?_⟩
  cases k with
  | false =>
    rw [if_neg Bool.false_ne_true] at q2 ⊢
    exact q _ H3 _ n2 (g2.xt x3 p3) ((x1.trans x2).trans x3) (.bl _) q2
  | true =>
    rw [if_pos rfl] at q2 ⊢
    refine ⟨en, n2, _, g2.xt x3 p3, q2, fun u' H4 y' n4 g4 x4 r4 q4 => ?_⟩
    obtain ⟨z', hz', q4⟩ := opt_some q4
    refine h2 H4 n4 w u' y y' z' g4.pen ((r2.rr g1.pen).xt (x3.trans x4) g2.pen) (r4.rr p3) hz' Q fun u5 H5 x5 p5 r5 => ?_
    exact q u5 H5 z' n4 (g4.xt x5 p5) ((((x1.trans x2).trans x3).trans x4).trans x5) (r5.back (k := .m) (((x1.trans x2).trans x3).trans x4) g4.pen) q4
theorem pd_ch {op op' : CmpOp} {f f' : D → D → Option D} (o : OpP X pn op f) (o' : OpP X pn op' f') (ha : PD X pn H0 ka a ta) (hb : PD X pn H0 kb b tb) (hc : PD X pn H0 kc c tc) (hm : lastMarks [op, op'] [b, c] = false := by with_unfolding_all rfl) :
    PD X pn H0 .m (.Compare a [op, op'] [b, c] pos) (dCh f f' ta tb tc) := by
  obtain ⟨r, h1, h2⟩ := o
  obtain ⟨r', h3, h4⟩ := o'
  exact pe_wk (pe_chain h1 h3 ha hb hc hm) fun _ _ _ h => up_ch (h2 ka kb) (h4 kb kc) h
theorem pdt_ch {op op' : CmpOp} {f f' : D → D → Option D} (o : OpP X pn op f) (o' : OpP X pn op' f') (ha : PD X pn H0 ka a ta) (hb : PD X pn H0 kb b tb) (hc : PD X pn H0 kc c tc) (hm : lastMarks [op, op'] [b, c] = false := by with_unfolding_all rfl) :
    PDT X pn H0 (.Compare a [op, op'] [b, c] pos) (dT (dCh f f' ta tb tc)) := by
  obtain ⟨r, h1, h2⟩ := o
  obtain ⟨r', h3, h4⟩ := o'
  refine pt_wk (pt_chain h1 h3 ha hb hc hm) fun σ H Q h => ?_
  obtain ⟨e, n, Qd, g, ht, q⟩ := h
  refine up_ch (h2 ka kb) (h4 kb kc) ⟨e, n, _, g, ht, fun v H' y n' g' x' r' h' => ?_⟩
  obtain ⟨bb, e1, e2⟩ := opt_some h'
  have := asB_some e1
  subst this
  exact ⟨bb, RepX.bl (.inl r'), q bb H' n' g' x' e2⟩

/-! ### len, items -/
def fLen : D → Option D
  | .lst l => some (.int l.length)
  | .tup l => some (.int l.length)
  | _ => none
theorem pd_len {x : Str} {p : Pos} (hm : X.mg x = none) (hg : Gl X x) (ha : PD X pn H0 ka a ta) (hx : bootBuiltins x = some (.builtin "len") := by exact PySem.boot_len) (hn : x ≠ "__name__" := by decide) (hdb : (x == ("__debug__" : Str)) = false := by decide)
    (he : starEach (a :: []) X.env = (false, eval a X.env) :: starEach [] X.env := by rfl) (hpl : (backTo pos (starEach [] X.env)).any (·.1) = false := by rfl) :
    PD X pn H0 .m (.Call (.Name x p) [a] [] pos) (d1 fLen ta) := pd_b1 call_len_seq (fun H n v y z hp h1 e Q q => by
  unfold fLen at e
  split at e
  · rename_i l
    cases e
    obtain ⟨c, vs, rfl, h2, h3⟩ := RepX.lst h1.rx
    refine ⟨c, vs, rfl, .inl h2, ?_⟩
    rw [h3.length]
    exact q _ H (Xt.refl _ _) hp (.int _)
  · rename_i l
    cases e
    obtain ⟨c, vs, rfl, h2, h3⟩ := RepX.tup h1.rx
    refine ⟨c, vs, rfl, .inr h2, ?_⟩
    rw [h3.length]
    exact q _ H (Xt.refl _ _) hp (.int _)
  · cases e) hg hm hx ha hn hdb he hpl
theorem Reps.at {pn : Pw} {K : PySem.W.Frag} {H : Hp} {vs : List V} {l : List D} {i : Int} {x : D} (r : Reps pn K H vs l) (h : atI l i = some x) : ∃ v, atI vs i = some v ∧ Rep pn K H v x := by
  unfold atI at h ⊢
  rw [r.length]
  cases e : ixN l.length i with
  | none =>
    rw [e] at h
    cases h
  | some j =>
    rw [e] at h
    exact r.get h
def fIxL : D → D → Option D
  | .lst l, .int i => atI l i
  | _, _ => none
def fIxT : D → D → Option D
  | .tup l, .int i => atI l i
  | _, _ => none
theorem pd_ix {r : R2} {f : D → D → Option D} (hi : IxR X r) (hf : OpD pn X.K ka kb k r f) (ha : PD X pn H0 ka a ta) (hb : PD X pn H0 kb b tb) (hs : PlainIx b := by exact fun _ _ => rfl) : PD X pn H0 k (.Subscript a b pos) (d2 f ta tb) :=
  pe_wk (pe_ix hi ha hb hs) fun _ _ _ h => up_op hf h
theorem od_ixL {K : PySem.W.Frag} : OpD pn K ka kb .m (rIxL K) fIxL := fun H n v w x y z hp h1 h2 e Q q => by
  unfold fIxL at e
  split at e
  · obtain ⟨c, vs, rfl, h3, h4⟩ := RepX.lst h1.rx
    obtain ⟨u, h5, h6⟩ := h4.at e
    exact ⟨c, vs, _, u, rfl, h2.rx.int, h3, h5, q u H (Xt.refl _ _) hp h6⟩
  · cases e
theorem od_ixT {K : PySem.W.Frag} : OpD pn K ka kb .m (rIxT K) fIxT := fun H n v w x y z hp h1 h2 e Q q => by
  unfold fIxT at e
  split at e
  · obtain ⟨c, vs, rfl, h3, h4⟩ := RepX.tup h1.rx
    obtain ⟨u, h5, h6⟩ := h4.at e
    exact ⟨c, vs, _, u, rfl, h2.rx.int, h3, h5, q u H (Xt.refl _ _) hp h6⟩
  · cases e
theorem pd_ixL (ha : PD X pn H0 ka a ta) (hb : PD X pn H0 .m b tb) (hs : PlainIx b := by exact fun _ _ => rfl) : PD X pn H0 .m (.Subscript a b pos) (d2 fIxL ta tb) := pd_ix ix_list od_ixL ha hb hs
theorem pd_ixT (ha : PD X pn H0 ka a ta) (hb : PD X pn H0 .m b tb) (hs : PlainIx b := by exact fun _ _ => rfl) : PD X pn H0 .m (.Subscript a b pos) (d2 fIxT ta tb) := pd_ix ix_tup od_ixT ha hb hs
end
end VD

set_option Elab.async false
set_option linter.all false
set_option maxRecDepth 100000
set_option maxHeartbeats 4000000
namespace VD
open PySem L2

section
variable {X : Cx} {pn : Pw} {H0 : Hp} {ka kb kc k : Kd} {a b c : Expr} {ta tb tc : TD} {pos : Pos}
/-! ### arguments and displays -/
def dNil : TAD := fun _ n Q => Q [] n
def dCons (t : TD) (u : TAD) : TAD := fun e n Q => t e n fun x m => u e m fun l j => Q (x :: l) j
theorem pda_nil : PDA X pn H0 [] dNil := pa_wk pa_nil fun σ H Q ⟨e, n, Qd, g, ht, q⟩ => q [] H [] n g (Xt.refl _ _) .nil ht
theorem pda_cons {es : List Expr} {t : TAD} (ha : PD X pn H0 .m a ta) (hr : PDA X pn H0 es t) (hs : starEach (a :: es) X.env = (false, eval a X.env) :: starEach es X.env := by rfl) : PDA X pn H0 (a :: es) (dCons ta t) :=
  pa_wk (pa_cons ha hr hs) fun σ H Q ⟨e, n, Qd, g, ht, q⟩ => ⟨e, n, _, g, ht, fun v H1 x n1 g1 x1 r1 h1 =>
    ⟨e, n1, _, g1, h1, fun vs H2 l n2 g2 x2 r2 h2 => q (v :: vs) H2 (x :: l) n2 g2 (x1.trans x2) (.cons (Rep.gr (x2.gr g1.pen) r1) r2) h2⟩⟩
theorem small_le {n : Nat} (h : n ≤ 100000) : n ≤ sizeLine := Nat.le_trans h (by decide)
def dTup (t : TAD) : TD := fun e n Q => t e n fun l m => l.length ≤ 100000 ∧ Q (.tup l) m
def dLst (t : TAD) : TD := fun e n Q => t e n fun l m => l.length ≤ 100000 ∧ Q (.lst l) m
theorem pd_tup {es : List Expr} {t : TAD} {x1} (h : PDA X pn H0 es t) : PD X pn H0 .m (.Tuple es x1 pos) (dTup t) := pe_wk (pe_tup h) fun σ H Q ⟨e, n, Qd, g, ht, q⟩ => ⟨e, n, _, g, ht, fun vs H1 l n1 g1 x1 r1 h1 => by
  obtain ⟨hl, h1⟩ := h1
  refine ⟨small_le (by rw [r1.length]; exact hl), fun p hp => ?_⟩
  exact q _ _ _ n1 (g1.new hp) (x1.trans (Xt.new hp)) (Rep.tup (SqT.of upd_same) (r1.gr (Gr.new hp))) h1⟩
theorem pd_lst {es : List Expr} {t : TAD} (h : PDA X pn H0 es t) : PD X pn H0 .f (.List es pos) (dLst t) := pe_wk (pe_lst h) fun σ H Q ⟨e, n, Qd, g, ht, q⟩ => ⟨e, n, _, g, ht, fun vs H1 l n1 g1 x1 r1 h1 => by
  obtain ⟨hl, h1⟩ := h1
  refine ⟨small_le (by rw [r1.length]; exact hl), fun p hp => ?_⟩
  exact q _ _ _ n1 (g1.new hp) (x1.trans (Xt.new hp)) ⟨p, vs, l, rfl, rfl, fresh_back x1 g1.pen hp, upd_same, r1.gr (Gr.new hp)⟩ h1⟩

/-! ### what lays a new thing -/
theorem lay_tup {K : PySem.W.Frag} {H : Hp} {n : Nat} {p : Addr} {vs : List V} {l : List D} (g : PenOk pn K H n) (hp : H p = none) (r : Reps pn K H vs l) : Xt pn H (upd H p (.tup vs)) ∧ PenOk pn K (upd H p (.tup vs)) n ∧ Rep pn K (upd H p (.tup vs)) (.ref p) (.tup l) :=
  ⟨Xt.new hp, g.xt (Gr.new hp) fun a ha => upd_ne fun z => g.ne hp (by rw [← z]; exact ha), .tup (SqT.of upd_same) (r.gr (Gr.new hp))⟩
theorem lay_lst {K : PySem.W.Frag} {H : Hp} {n : Nat} {p : Addr} {vs : List V} {l : List D} (g : PenOk pn K H n) (hp : H p = none) (r : Reps pn K H vs l) : Xt pn H (upd H p (.lst vs)) ∧ PenOk pn K (upd H p (.lst vs)) n ∧ New pn K H (upd H p (.lst vs)) (.ref p) (.lst l) :=
  ⟨Xt.new hp, g.xt (Gr.new hp) fun a ha => upd_ne fun z => g.ne hp (by rw [← z]; exact ha), p, vs, l, rfl, rfl, hp, upd_same, r.gr (Gr.new hp)⟩

/-! ### list + list, tuple + tuple, text + text -/
theorem TrL.get {pins : List (Addr × Obj)} {σ : L2.St} {H : Hp} {s : Shared} {l : Addr} {xs : List V} (I : Inv X pins σ H s) (h : TrL H l xs) : xs.length ≤ sizeLine ∧ ∃ (its : List Value) (n : Nat), Vals xs its ∧ xs.length = its.length ∧ s.heap.get? l = some { cls := .type "list", data := .seq its.toArray n } := by
  rcases h with h | ⟨o, h⟩
  · exact I.lstM h
  · obtain ⟨_, z, its, n, r, e⟩ := I.hok l _ h
    exact ⟨z, its, n, r, r.length, e⟩
def rCatX : R2 := fun x y H Q => ∃ l b xs zs, x = .ref l ∧ y = .ref b ∧ TrL H l xs ∧ TrL H b zs ∧ xs.length + zs.length ≤ sizeLine ∧ ∀ p, H p = none → Q (.ref p) (upd H p (.lst (xs ++ zs)))
theorem op_catX : OpR X (binaryOp .Add) rCatX := by
  intro pins s σ H x y v u Q I rx ry h
  obtain ⟨l, b, xs, zs, rfl, rfl, h1, h2, hz, q⟩ := h
  cases rx
  cases ry
  obtain ⟨_, i1, n1, r1, l1, e1⟩ := h1.get I
  obtain ⟨_, i2, n2, r2, l2, e2⟩ := h2.get I
  refine PySem.P.add_list e1 e2 ?_ (by rw [List.size_toArray, List.size_toArray]; omega)
  rw [show i1.toArray ++ i2.toArray = (i1 ++ i2).toArray by simp]
  exact ⟨.ref _, _, I.lnew (t' := s.toks) (r1.append r2) (by rw [List.length_append]; omega), rfl, q _ I.fresh⟩
def fCatL : D → D → Option D
  | .lst l, .lst m => if l.length + m.length ≤ 100000 then some (.lst (l ++ m)) else none
  | _, _ => none
theorem ob_catL : OpB X pn .Add .f fCatL := ⟨_, op_catX, fun _ _ H n v w x y z hp h1 h2 e Q q => by
  unfold fCatL at e
  split at e
  · rename_i l m
    split at e
    · rename_i hl
      cases e
      obtain ⟨p1, vs, rfl, t1, r1⟩ := RepX.trl h1.rx
      obtain ⟨p2, ws, rfl, t2, r2⟩ := RepX.trl h2.rx
      refine ⟨p1, p2, vs, ws, rfl, rfl, t1, t2, small_le (by rw [r1.length, r2.length]; exact hl), fun p hq => ?_⟩
      obtain ⟨a1, a2, a3⟩ := lay_lst hp hq (r1.append r2)
      exact q _ _ a1 a2 a3
    · cases e
  · cases e⟩
def fCatT : D → D → Option D
  | .tup l, .tup m => if l.length + m.length ≤ 100000 then some (.tup (l ++ m)) else none
  | _, _ => none
theorem ob_catT : OpB X pn .Add .m fCatT := ⟨_, op_catA, fun _ _ H n v w x y z hp h1 h2 e Q q => by
  unfold fCatT at e
  split at e
  · rename_i l m
    split at e
    · rename_i hl
      cases e
      obtain ⟨p1, vs, rfl, t1, r1⟩ := RepX.tup h1.rx
      obtain ⟨p2, ws, rfl, t2, r2⟩ := RepX.tup h2.rx
      refine ⟨p1, p2, vs, ws, rfl, rfl, t1, t2, small_le (by rw [r1.length, r2.length]; exact hl), fun z => ?_, fun _ z => ?_, fun _ _ p hq => ?_⟩
      · subst z
        cases r1
        exact q _ _ (Xt.refl _ _) hp (Rep.tup t2 r2)
      · subst z
        cases r2
        rw [List.append_nil] at q
        exact q _ _ (Xt.refl _ _) hp (Rep.tup t1 r1)
      · obtain ⟨a1, a2, a3⟩ := lay_tup hp hq (r1.append r2)
        exact q _ _ a1 a2 a3
    · cases e
  · cases e⟩
def fCatS : D → D → Option D
  | .str x, .str y => if x.length + y.length ≤ 10000000 then some (.str (x ++ y)) else none
  | _, _ => none
theorem ob_catS : OpB X pn .Add .m fCatS := ⟨_, op_add_str, fun _ _ H n v w x y z hp h1 h2 e Q q => by
  unfold fCatS at e
  split at e
  · rename_i l m
    split at e
    · rename_i hl
      cases e
      exact ⟨l, m, RepX.str h1.rx, RepX.str h2.rx, Nat.le_trans hl (by decide), q _ _ (Xt.refl _ _) hp (Rep.str _)⟩
    · cases e
  · cases e⟩
/-- [..] * n -/
def rRepX : R2 := fun x y H Q => ∃ l k xs, x = .ref l ∧ y = .int k ∧ H l = some (.lst xs) ∧ 0 ≤ k ∧ k ≤ 1000 ∧ xs.length * k.toNat ≤ sizeLine ∧ ∀ p, H p = none → Q (.ref p) (upd H p (.lst (List.replicate k.toNat xs).flatten))
theorem op_repX : OpR X (binaryOp .Mult) rRepX := fun pins s σ H x y v u Q I rx ry ⟨l, k, xs, h1, h2, h3, h4, h5, h6, q⟩ => op_rep pins s σ H x y v u Q I rx ry ⟨l, k, xs, h1, h2, h3, by omega, by omega, h6, q⟩
theorem Reps.rep {pn : Pw} {K : PySem.W.Frag} {H : Hp} {vs : List V} {l : List D} (r : Reps pn K H vs l) : ∀ n : Nat, Reps pn K H (List.replicate n vs).flatten (List.replicate n l).flatten
  | 0 => .nil
  | n + 1 => by
    rw [List.replicate_succ, List.replicate_succ, List.flatten_cons, List.flatten_cons]
    exact r.append (Reps.rep r n)
def fRepL : D → D → Option D
  | .lst l, .int k => if 0 ≤ k ∧ k ≤ 1000 ∧ l.length ≤ 1000 then some (.lst (List.replicate k.toNat l).flatten) else none
  | _, _ => none
/-- a list that is new, times a number -/
theorem pd_repL (ha : PD X pn H0 .f a ta) (hb : PD X pn H0 .m b tb) : PD X pn H0 .f (.BinOp a .Mult b pos) (d2 fRepL ta tb) :=
  pe_wk (pe_op op_repX ha hb) fun σ H Q ⟨en, n, Qd, g, ht, q⟩ => ⟨en, n, _, g, ht, fun v H1 x n1 g1 x1 r1 h1 => ⟨en, n1, _, g1, h1, fun w H2 y n2 g2 x2 r2 h2 => by
    obtain ⟨z, hz, hq⟩ := opt_some h2
    unfold fRepL at hz
    split at hz
    · rename_i l k
      split at hz
      · rename_i hl
        cases hz
        obtain ⟨p0, vs, m, rfl, e2, e3, e4, e5⟩ := r1
        cases e2
        have ne : ¬ Own pn p0 := g.pen.ne e3
        have e5' := e5.gr (x2.gr g1.pen)
        refine ⟨p0, k, vs, rfl, RepX.int (.inl r2), x2 _ _ e4 ne, hl.1, hl.2.1, ?_, fun p hp => ?_⟩
        · rw [e5.length]
          exact Nat.le_trans (Nat.mul_le_mul hl.2.2 (show k.toNat ≤ 1000 by omega)) (by decide)
        · obtain ⟨a1, a2, a3⟩ := lay_lst g2.pen hp (e5'.rep k.toNat)
          exact q _ _ _ n2 (g2.xt a1 a2) ((x1.trans x2).trans a1) (RK.back (k := .f) a3 (x1.trans x2) g2.pen) hq
      · cases hz
    · cases hz⟩⟩
def fRepT : D → D → Option D
  | .tup l, .int k => if 2 ≤ k ∧ k ≤ 1000 ∧ l.length ≤ 1000 ∧ l ≠ [] then some (.tup (List.replicate k.toNat l).flatten) else none
  | _, _ => none
theorem ob_repT : OpB X pn .Mult .m fRepT := ⟨_, op_repT, fun _ _ H n v w x y z hp h1 h2 e Q q => by
  unfold fRepT at e
  split at e
  · rename_i l k
    split at e
    · rename_i hl
      cases e
      obtain ⟨p1, vs, rfl, t1, r1⟩ := RepX.tup h1.rx
      refine ⟨p1, k, vs, rfl, RepX.int (RR.rx h2), t1, fun z => ?_, hl.1, hl.2.1, by rw [r1.length]; exact hl.2.2.1, fun p hq => ?_⟩
      · subst z
        cases r1
        exact hl.2.2.2 rfl
      · obtain ⟨a1, a2, a3⟩ := lay_tup hp hq (r1.rep k.toNat)
        exact q _ _ a1 a2 a3
    · cases e
  · cases e⟩

/-! ### list(..), tuple(..), min, max, int -/
def fToL : D → Option D
  | .lst l => some (.lst l)
  | .tup l => some (.lst l)
  | _ => none
def fToT : D → Option D
  | .lst l => some (.tup l)
  | .tup l => some (.tup l)
  | _ => none
theorem ud_toL : UnD pn X.K ka .f (fun v H Q => ∃ p ys, [v] = [.ref p] ∧ (SqL X.K H p ys ∨ SqT X.K H p ys) ∧ ∀ l, H l = none → Q (.ref l) (upd H l (.lst ys))) fToL := fun H n v x z hp h1 e Q q => by
  unfold fToL at e
  split at e
  · cases e
    obtain ⟨p, vs, rfl, t, r⟩ := RepX.lst h1.rx
    refine ⟨p, vs, rfl, .inl t, fun l hl => ?_⟩
    obtain ⟨a1, a2, a3⟩ := lay_lst hp hl r
    exact q _ _ a1 a2 a3
  · cases e
    obtain ⟨p, vs, rfl, t, r⟩ := RepX.tup h1.rx
    refine ⟨p, vs, rfl, .inr t, fun l hl => ?_⟩
    obtain ⟨a1, a2, a3⟩ := lay_lst hp hl r
    exact q _ _ a1 a2 a3
  · cases e
theorem ud_toT : UnD pn X.K ka .m (fun v H Q => ∃ p ys, [v] = [.ref p] ∧ ((SqL X.K H p ys ∧ ∀ l, H l = none → Q (.ref l) (upd H l (.tup ys))) ∨ (SqT X.K H p ys ∧ Q (.ref p) H))) fToT := fun H n v x z hp h1 e Q q => by
  unfold fToT at e
  split at e
  · cases e
    obtain ⟨p, vs, rfl, t, r⟩ := RepX.lst h1.rx
    refine ⟨p, vs, rfl, .inl ⟨t, fun l hl => ?_⟩⟩
    obtain ⟨a1, a2, a3⟩ := lay_tup hp hl r
    exact q _ _ a1 a2 a3
  · cases e
    obtain ⟨p, vs, rfl, t, r⟩ := RepX.tup h1.rx
    exact ⟨p, vs, rfl, .inr ⟨t, q _ _ (Xt.refl _ _) hp (Rep.tup t r)⟩⟩
  · cases e
theorem pd_toL {x : Str} {p : Pos} (hm : X.mg x = none) (hg : Gl X x) (ha : PD X pn H0 ka a ta) (hx : bootBuiltins x = some (.type "list") := by decide +kernel) (hn : x ≠ "__name__" := by decide) (hdb : (x == ("__debug__" : Str)) = false := by decide)
    (he : starEach (a :: []) X.env = (false, eval a X.env) :: starEach [] X.env := by rfl) (hpl : (backTo pos (starEach [] X.env)).any (·.1) = false := by rfl) :
    PD X pn H0 .f (.Call (.Name x p) [a] [] pos) (d1 fToL ta) := pd_t1 call_list_of ud_toL hg hm hx ha hn hdb he hpl
theorem pd_toT {x : Str} {p : Pos} (hm : X.mg x = none) (hg : Gl X x) (ha : PD X pn H0 ka a ta) (hx : bootBuiltins x = some (.type "tuple") := by decide +kernel) (hn : x ≠ "__name__" := by decide) (hdb : (x == ("__debug__" : Str)) = false := by decide)
    (he : starEach (a :: []) X.env = (false, eval a X.env) :: starEach [] X.env := by rfl) (hpl : (backTo pos (starEach [] X.env)).any (·.1) = false := by rfl) :
    PD X pn H0 .m (.Call (.Name x p) [a] [] pos) (d1 fToT ta) := pd_t1 call_tuple_of ud_toT hg hm hx ha hn hdb he hpl
def fMax := fI fun i j => .int (if j > i then j else i)
def fMin := fI fun i j => .int (if j < i then j else i)
theorem pd_max {x : Str} {p : Pos} (hc : X.calm = true) (hm : X.mg x = none) (hg : Gl X x) (ha : PD X pn H0 .m a ta) (hb : PD X pn H0 .m b tb) (hx : bootBuiltins x = some (.builtin "max") := by decide +kernel) (hn : x ≠ "__name__" := by decide) (hdb : (x == ("__debug__" : Str)) = false := by decide)
    (he : starEach (a :: b :: []) X.env = (false, eval a X.env) :: starEach (b :: []) X.env := by rfl) (he2 : starEach (b :: []) X.env = (false, eval b X.env) :: starEach [] X.env := by rfl) (hpl : (backTo pos (starEach (b :: []) X.env)).any (·.1) = false := by rfl) :
    PD X pn H0 .m (.Call (.Name x p) [a, b] [] pos) (d2 fMax ta tb) := pd_b2 (call_max2 hc) (fun H n v w x y z hp h1 h2 e Q q => by
  obtain ⟨i, j, rfl, rfl, rfl⟩ := fI_some e
  have e1 : v = .int i := RepX.int (RR.rx h1)
  have e2 : w = .int j := RepX.int (RR.rx h2)
  subst e1 e2
  exact ⟨i, j, rfl, q _ H (Xt.refl _ _) hp (.int _)⟩) hg hm hx ha hb hn hdb he he2 hpl
theorem pd_min {x : Str} {p : Pos} (hc : X.calm = true) (hm : X.mg x = none) (hg : Gl X x) (ha : PD X pn H0 .m a ta) (hb : PD X pn H0 .m b tb) (hx : bootBuiltins x = some (.builtin "min") := by decide +kernel) (hn : x ≠ "__name__" := by decide) (hdb : (x == ("__debug__" : Str)) = false := by decide)
    (he : starEach (a :: b :: []) X.env = (false, eval a X.env) :: starEach (b :: []) X.env := by rfl) (he2 : starEach (b :: []) X.env = (false, eval b X.env) :: starEach [] X.env := by rfl) (hpl : (backTo pos (starEach (b :: []) X.env)).any (·.1) = false := by rfl) :
    PD X pn H0 .m (.Call (.Name x p) [a, b] [] pos) (d2 fMin ta tb) := pd_b2 (call_min2 hc) (fun H n v w x y z hp h1 h2 e Q q => by
  obtain ⟨i, j, rfl, rfl, rfl⟩ := fI_some e
  have e1 : v = .int i := RepX.int (RR.rx h1)
  have e2 : w = .int j := RepX.int (RR.rx h2)
  subst e1 e2
  exact ⟨i, j, rfl, q _ H (Xt.refl _ _) hp (.int _)⟩) hg hm hx ha hb hn hdb he he2 hpl
def fInt : D → Option D
  | .int i => some (.int i)
  | .bl b => some (.int (if b then 1 else 0))
  | _ => none
theorem pd_toI {x : Str} {p : Pos} (hm : X.mg x = none) (hg : Gl X x) (ha : PD X pn H0 .m a ta) (hx : bootBuiltins x = some (.type "int") := by decide +kernel) (hn : x ≠ "__name__" := by decide) (hdb : (x == ("__debug__" : Str)) = false := by decide)
    (he : starEach (a :: []) X.env = (false, eval a X.env) :: starEach [] X.env := by rfl) (hpl : (backTo pos (starEach [] X.env)).any (·.1) = false := by rfl) :
    PD X pn H0 .m (.Call (.Name x p) [a] [] pos) (d1 fInt ta) := pd_t1 call_int1 (fun H n v y z hp h1 e Q q => by
  unfold fInt at e
  split at e
  · cases e
    have e1 := RepX.int (RR.rx h1)
    subst e1
    exact .inl ⟨_, rfl, q _ H (Xt.refl _ _) hp (.int _)⟩
  · cases e
    have e1 := RepX.bl (RR.rx h1)
    subst e1
    exact .inr ⟨_, rfl, q _ H (Xt.refl _ _) hp (.int _)⟩
  · cases e) hg hm hx ha hn hdb he hpl

/-! ### isinstance with a built-in class -/
def tyD : D → Option String
  | .non => some "NoneType"
  | .bl _ => some "bool"
  | .int _ => some "int"
  | .str _ => some "str"
  | .tup _ => some "tuple"
  | .lst _ => some "list"
  | _ => none
def fIsi (T : String) (x : D) : Option D := (tyD x).bind fun a => (kitB a T).map .bl
theorem tyX_of {K : PySem.W.Frag} {H : Hp} {v : V} {x : D} {t : String} (r : RepX pn K H v x) (e : tyD x = some t) : TyX K H v (.type t) := by
  cases x with
  | non => cases e; rw [RepX.non r]; exact .base .non
  | bl b => cases e; rw [RepX.bl r]; exact .base (.bl b)
  | int i => cases e; rw [RepX.int r]; exact .base (.int i)
  | str z => cases e; rw [RepX.str r]; exact .base (.str z)
  | tup l =>
    cases e
    obtain ⟨p, vs, rfl, h, _⟩ := RepX.tup r
    rcases h with (h | ⟨o, h⟩) | ⟨o, its, n, h, h2, _⟩
    · exact .base (.tup h)
    · exact .fTuple h
    · exact .kTuple h h2
  | lst l =>
    cases e
    obtain ⟨p, vs, rfl, h, _⟩ := RepX.trl r
    rcases h with h | ⟨o, h⟩
    · exact .base (.lst h)
    · exact .base (.frz h)
  | dct ks vs => cases e
  | pen => cases e
  | exc C fl k => cases e
  | ro l => cases e
def dTy : TD := fun _ _ _ => False
theorem pd_isi {x y : Str} {T : String} {p p2 : Pos} (hm : X.mg x = none) (hm2 : X.mg y = none) (hg : Gl X x) (hg2 : Gl X y) (ha : PD X pn H0 ka a ta) (hT : bootBuiltins y = some (.type T) := by decide +kernel) (hx : bootBuiltins x = some (.builtin "isinstance") := by decide +kernel)
    (hn : x ≠ "__name__" := by decide) (hn2 : y ≠ "__name__" := by decide) (hdb : (x == ("__debug__" : Str)) = false := by decide) (hdb2 : (y == ("__debug__" : Str)) = false := by decide)
    (he : starEach (a :: (.Name y p2) :: []) X.env = (false, eval a X.env) :: starEach ((.Name y p2) :: []) X.env := by rfl) (he2 : starEach ((.Name y p2) :: []) X.env = (false, eval (.Name y p2) X.env) :: starEach [] X.env := by rfl)
    (hpl : (backTo pos (starEach ((.Name y p2) :: []) X.env)).any (·.1) = false := by rfl) : PD X pn H0 .m (.Call (.Name x p) [a, .Name y p2] [] pos) (d1 (fIsi T) ta) :=
  pe_wk (pe_callB call_isi hg hm hx (pa_cons ha (pa_cons (pe_bltn (v := .ty T) hg2 hm2 hT rfl hn2 hdb2) pa_nil he2) he) hn hdb he hpl) fun σ H Q ⟨en, n, Qd, g, ht, q⟩ => ⟨en, n, _, g, ht, fun v H1 z n1 g1 x1 r1 h1 => by
    obtain ⟨w, hw, hq⟩ := opt_some h1
    unfold fIsi at hw
    cases e1 : tyD z with
    | none => rw [e1] at hw; cases hw
    | some t =>
      rw [e1] at hw
      obtain ⟨b, e2, rfl⟩ := Option.map_eq_some_iff.mp hw
      exact ⟨v, .ty T, .type t, .type T, b, rfl, .ty T, tyX_of (RR.rx (r1.rr g.pen)) e1, kit_ty e2, q _ H1 _ n1 g1 x1 (.bl b) hq⟩⟩

/-! ### pieces -/
def cutD (l : List D) (lo hi : Option Int) : List D := (l.drop (HT.sIx l.length 0 lo)).take (HT.sIx l.length l.length hi - HT.sIx l.length 0 lo)
theorem Reps.cut {pn : Pw} {K : PySem.W.Frag} {H : Hp} {vs : List V} {l : List D} (r : Reps pn K H vs l) (lo hi : Option Int) : Reps pn K H (cutV vs lo hi) (cutD l lo hi) := by
  unfold cutV cutD
  rw [r.length]
  exact (r.drop _).take _
abbrev TOD := En → Nat → (Option Int → Nat → Prop) → Prop
def dNo : TOD := fun _ n Q => Q none n
def asI : D → Option Int
  | .int i => some i
  | _ => none
def dPt (t : TD) : TOD := fun e n Q => t e n fun x m => opt (asI x) fun i => Q (some i) m
def upO (pn : Pw) (H0 : Hp) (K : PySem.W.Frag) (t : TOD) : TO := fun σ H Q => ∃ (e : En) (n : Nat) (Qd : Option Int → Nat → Prop), Good pn K H0 e n σ H ∧ t e n Qd ∧
  ∀ o H' n', Good pn K H0 e n' σ H' → Xt pn H H' → Qd o n' → Q o H'
abbrev PDO (X : Cx) (pn : Pw) (H0 : Hp) (e : Option Expr) (t : TOD) : Prop := PO X e (upO pn H0 X.K t)
theorem po_wk {e : Option Expr} {t t' : TO} (h : PO X e t) (w : ∀ σ H Q, t' σ H Q → t σ H Q) : PO X e t' := ⟨fun pins s σ H Q I q => h.run pins s σ H Q I (w σ H Q q)⟩
theorem pdo_no : PDO X pn H0 none dNo := po_wk po_none fun σ H Q ⟨e, n, Qd, g, ht, q⟩ => q none H n g (Xt.refl _ _) ht
theorem asI_some {x : D} {i : Int} (h : asI x = some i) : x = .int i := by
  unfold asI at h
  split at h
  · cases h
    rfl
  · cases h
theorem pdo_pt (h : PD X pn H0 .m a ta) : PDO X pn H0 (some a) (dPt ta) := po_wk (po_some h) fun σ H Q ⟨e, n, Qd, g, ht, q⟩ => ⟨e, n, _, g, ht, fun v H1 x n1 g1 x1 r1 h1 => by
  obtain ⟨i, hi, hq⟩ := opt_some h1
  have := asI_some hi
  subst this
  exact ⟨i, RepX.int (.inl r1), q _ H1 n1 g1 x1 hq⟩⟩
def dSl (f : D → Option Int → Option Int → Option D) (t : TD) (l h : TOD) : TD := fun e n Q => t e n fun x n1 => l e n1 fun lo n2 => h e n2 fun hi n3 => opt (f x lo hi) fun z => Q z n3
def fSlT : D → Option Int → Option Int → Option D
  | .tup l, lo, hi => some (.tup (cutD l lo hi))
  | _, _, _ => none
def fSlL : D → Option Int → Option Int → Option D
  | .lst l, lo, hi => some (.lst (cutD l lo hi))
  | .ro l, lo, hi => some (.lst (cutD l lo hi))
  | _, _, _ => none
theorem cut_all {α : Type} (l : List α) {lo hi : Option Int} (h : HT.sIx l.length 0 lo = 0 ∧ HT.sIx l.length l.length hi = l.length) : (l.drop (HT.sIx l.length 0 lo)).take (HT.sIx l.length l.length hi - HT.sIx l.length 0 lo) = l := by
  rw [h.1, h.2, List.drop_zero, Nat.sub_zero, List.take_length]
theorem pd_slT {lo hi : Option Expr} {tl th : TOD} {p2 : Pos} (ha : PD X pn H0 ka a ta) (hl : PDO X pn H0 lo tl) (hh : PDO X pn H0 hi th) : PD X pn H0 .m (.Subscript a (.Slice lo hi none p2) pos) (dSl fSlT ta tl th) :=
  pe_wk (pe_slice sl_tupA ha hl hh) fun σ H Q ⟨en, n, Qd, g, ht, q⟩ => ⟨en, n, _, g, ht, fun v H1 x n1 g1 x1 r1 h1 => ⟨en, n1, _, g1, h1, fun o H2 n2 g2 x2 h2 => ⟨en, n2, _, g2, h2, fun o' H3 n3 g3 x3 h3 => by
    obtain ⟨z, hz, hq⟩ := opt_some h3
    unfold fSlT at hz
    split at hz
    · rename_i l
      cases hz
      obtain ⟨p, vs, rfl, h4, r4⟩ := RepX.tup (RR.rx ((r1.rr g.pen).xt (x2.trans x3) g1.pen))
      refine ⟨p, vs, rfl, h4, fun c => ?_, fun c p1 hp => ?_⟩
      · rw [r4.length] at c
        have e : cutD l o o' = l := cut_all l c
        rw [e] at hq
        exact q _ H3 _ n3 g3 ((x1.trans x2).trans x3) (Rep.tup h4 r4) hq
      · obtain ⟨a1, a2, a3⟩ := lay_tup g3.pen hp (r4.cut o o')
        exact q _ _ _ n3 (g3.xt a1 a2) (((x1.trans x2).trans x3).trans a1) a3 hq
    · cases hz⟩⟩⟩
theorem pd_slL {lo hi : Option Expr} {tl th : TOD} {p2 : Pos} (ha : PD X pn H0 ka a ta) (hl : PDO X pn H0 lo tl) (hh : PDO X pn H0 hi th) : PD X pn H0 .f (.Subscript a (.Slice lo hi none p2) pos) (dSl fSlL ta tl th) :=
  pe_wk (pe_slice sl_list ha hl hh) fun σ H Q ⟨en, n, Qd, g, ht, q⟩ => ⟨en, n, _, g, ht, fun v H1 x n1 g1 x1 r1 h1 => ⟨en, n1, _, g1, h1, fun o H2 n2 g2 x2 h2 => ⟨en, n2, _, g2, h2, fun o' H3 n3 g3 x3 h3 => by
    obtain ⟨z, hz, hq⟩ := opt_some h3
    unfold fSlL at hz
    split at hz
    · rename_i l
      cases hz
      obtain ⟨p, vs, rfl, h4, r4⟩ := RepX.lst (RR.rx ((r1.rr g.pen).xt (x2.trans x3) g1.pen))
      refine ⟨p, vs, rfl, h4, fun p1 hp => ?_⟩
      obtain ⟨a1, a2, a3⟩ := lay_lst g3.pen hp (r4.cut o o')
      exact q _ _ _ n3 (g3.xt a1 a2) (((x1.trans x2).trans x3).trans a1) (RK.back (k := .f) a3 ((x1.trans x2).trans x3) g3.pen) hq
    · rename_i l
      cases hz
      obtain ⟨p, vs, rfl, h4, r4⟩ := RepX.ro (RR.rx ((r1.rr g.pen).xt (x2.trans x3) g1.pen))
      refine ⟨p, vs, rfl, h4, fun p1 hp => ?_⟩
      obtain ⟨a1, a2, a3⟩ := lay_lst g3.pen hp (r4.cut o o')
      exact q _ _ _ n3 (g3.xt a1 a2) (((x1.trans x2).trans x3).trans a1) (RK.back (k := .f) a3 ((x1.trans x2).trans x3) g3.pen) hq
    · cases hz⟩⟩⟩

/-! ### repr -/
def okP (p : PyData) : Bool := p.showable && !p.hasDict && decide (p.depth ≤ 60) && decide (p.shown.length ≤ sizeLine)
def fRepr (x : D) : Option D := match toP x with
  | some p => if okP p then some (.str p.shown) else none
  | none => none
theorem call_reprD {kr : Nat} (hr : Room kr X.A) (hG : X.A.guards = some []) : CallR X (.builtin "repr") (fun xs H Q => ∃ v p, xs = [v] ∧ Dp X.K H v p ∧ okP p = true ∧ Q (.str p.shown) H) := by
  intro pins s σ H xs us Q I r h
  obtain ⟨v, p, rfl, hd, ho, q⟩ := h
  obtain ⟨u, rfl, ru⟩ := vals1 r
  unfold okP at ho
  rw [Bool.and_eq_true, Bool.and_eq_true, Bool.and_eq_true] at ho
  obtain ⟨⟨⟨o1, o2⟩, o3⟩, o4⟩ := ho
  have o2 : p.hasDict = false := by simpa using o2
  have o3 : p.depth ≤ 60 := of_decide_eq_true o3
  have o4 : p.shown.length ≤ sizeLine := of_decide_eq_true o4
  cases hd with
  | non =>
    cases ru
    exact PySem.P.repr_of_none ⟨.str _, H, I.tok _, ⟨_, rfl⟩, q⟩
  | bl b =>
    cases ru
    exact PySem.P.repr_of_bool ⟨.str _, H, I.tok _, by cases b <;> exact ⟨_, rfl⟩, q⟩
  | int i =>
    obtain ⟨t, rfl⟩ := ru
    exact PySem.P.repr_of_int (of_decide_eq_true o1) ⟨.str _, H, I.tok _, ⟨_, rfl⟩, q⟩
  | str z =>
    obtain ⟨t, rfl⟩ := ru
    exact PySem.P.repr_of_str ⟨.str _, H, I.tok _, ⟨_, rfl⟩, q⟩ o4
  | lst h1 h2 =>
    have hv := Dp.lst (K := X.K) h1 h2
    cases ru
    obtain ⟨as, rd⟩ := Dp.reads I _ _ _ hv rfl
    exact repr_of_reads' rd o1 (fun z => by rw [o2] at z; cases z) hG (by have := hr.un; omega) (fun _ _ z => z) (fun h' u tk kk => ⟨.str _, H, I.kept (t' := tk) kk, ⟨_, rfl⟩, q⟩) o4
  | tup h1 h2 =>
    have hv := Dp.tup (K := X.K) h1 h2
    cases ru
    obtain ⟨as, rd⟩ := Dp.reads I _ _ _ hv rfl
    exact repr_of_reads' rd o1 (fun z => by rw [o2] at z; cases z) hG (by have := hr.un; omega) (fun _ _ z => z) (fun h' u tk kk => ⟨.str _, H, I.kept (t' := tk) kk, ⟨_, rfl⟩, q⟩) o4
theorem pd_repr {x : Str} {p : Pos} {kr : Nat} (hr : Room kr X.A) (hG : X.A.guards = some []) (hm : X.mg x = none) (hg : Gl X x) (ha : PD X pn H0 ka a ta) (hx : bootBuiltins x = some (.builtin "repr") := by decide +kernel) (hn : x ≠ "__name__" := by decide) (hdb : (x == ("__debug__" : Str)) = false := by decide)
    (he : starEach (a :: []) X.env = (false, eval a X.env) :: starEach [] X.env := by rfl) (hpl : (backTo pos (starEach [] X.env)).any (·.1) = false := by rfl) :
    PD X pn H0 .m (.Call (.Name x p) [a] [] pos) (d1 fRepr ta) := pd_b1 (call_reprD hr hG) (fun H n v y z hp h1 e Q q => by
  unfold fRepr at e
  split at e
  · rename_i p hP
    split at e
    · rename_i ho
      cases e
      exact ⟨v, p, rfl, RepX.dp h1.rx hP, ho, q _ H (Xt.refl _ _) hp (.str _)⟩
    · cases e
  · cases e) hg hm hx ha hn hdb he hpl
end
end VD

set_option Elab.async false
set_option linter.all false
set_option maxRecDepth 100000
set_option maxHeartbeats 4000000
namespace VD
open PySem L2

/-! ### a def's promise, where no repr runs around -/
structure FnG (P : Program) (w : World) (K : PySem.W.Frag) (mg : Str → Option Value) (base : Heap) (CX : CXT) (k : Nat) (f : Addr) (fd : FuncData) (ps : List Str) (sp : Sp) : Prop where
  len : ∀ vs H Q E, sp vs H Q E → vs.length = ps.length
  run : ∀ (A : Around) (outer : List Env) (s : Shared) (H : Hp) (args : Args) (us : List Value) (vs : List V) (Q : VK) (E : XK),
    Room k A → A.guards = some [] → Env0 P w K mg base A outer s H → BindsTo s fd args (ps.zip us) → Vals vs us → sp vs H Q E →
    codeAny (model P w) A (.call (.ref f) args) (CR CX outer P w H s Q E) s
theorem FnG.mono {P : Program} {w : World} {K : PySem.W.Frag} {mg : Str → Option Value} {base : Heap} {CX : CXT} {j k : Nat} {f : Addr} {fd : FuncData} {ps : List Str} {sp : Sp}
    (F : FnG P w K mg base CX j f fd ps sp) (h : j ≤ k) : FnG P w K mg base CX k f fd ps sp :=
  ⟨F.len, fun A outer s H args us vs Q E hr => F.run A outer s H args us vs Q E (hr.mono h)⟩

section
variable {P : Program} {w : World} {K : PySem.W.Frag} {mg : Str → Option Value} {base : Heap} {CX : CXT} {k : Nat} {f : Addr}
theorem fnG_of {nm ql : Str} {pa : Arguments} {bd : List Stmt} {sc : Scope} {dV kV doc pm cdv ct oc : Value} {an od : Option Addr} {osl : Array (Option Value)} {N ps : List Str} {sp : Sp}
    (lk : K.lookup f = some ⟨oc, od, .func (PySem.W.fnOf nm ql pa bd sc dV kV doc pm an cdv ct), osl⟩) (hcd : PySem.W.codeIn K cdv ql = true) (S : FnScope N ps sc)
    (len : ∀ vs H Q E, sp vs H Q E → vs.length = ps.length)
    (hb : ∀ (A : Around) (outer : List Env) (s : Shared) (H : Hp) (vs : List V) (Q : VK) (E : XK),
      Room k (A.deeper (PyProof.Rows.envOfC ql sc s.heap.objs.size f cdv)) → A.guards = some [] → sp vs H Q E →
      ∃ t, PSs (cxOf CX P w K mg base N ql sc f cdv A outer s H E) bd t ∧ t { nx := fun _ H' => Q .non H', rt := Q } (L2.start N vs) H) :
    FnG P w K mg base CX (k + 1) f (PySem.W.fnOf nm ql pa bd sc dV kV doc pm an cdv ct) ps sp := by
  refine ⟨len, fun A outer s H args us vs Q E room gua e0 bnd rel hsp => ?_⟩
  have arity := len _ _ _ _ hsp
  have inK : K.In s.heap := e0.mod.kin.keeps fun b o e => (e0.bs b o e).1
  have nolim : s.heap.NoLimit := e0.mod.nolimit.keeps fun b o e => (e0.bs b o e).1
  have kinds : ∀ y ∈ ps.zip us, sc.names.lookup y.1 = some .local ∨ (sc.names.lookup y.1 = some .cell ∧ ((cellsFrom (s.heap.objs.size + 1) sc.names []).lookup y.1).isSome = true) := by
    rintro ⟨n, v⟩ hy
    rcases S.par n (List.of_mem_zip hy).1 with q | q
    · exact .inl q
    · exact .inr ⟨q, PySem.W.cellsFrom_some _ _ _ (.inl q)⟩
  refine codeAny_call_function room.depth (inK _ _ lk) rfl S.co S.gen rfl
    (PySem.W.codeRec_of inK hcd) (bnd _ _ _ _ ?_)
  refine wpAny_newFunctionEnv_cells S.kind kinds fun en hen s1 made => ?_
  subst hen
  refine ⟨nolim.keeps made.toInCall.keep, codeAny_func ?_⟩
  obtain ⟨t, ht, q⟩ := hb A outer s H vs Q E (room.deeper _) gua hsp
  have I0 := inv_start (CX := CX) (E := E) S room.hd e0 arity rel made
  refine wpAny_mono (ht.run [] s1 (L2.start N vs) H _ I0 q) (fun fl s2 hs => ?_) fun e s2 hs => hs
  cases fl with
  | ret u =>
    obtain ⟨v, σ', H', J, rv, qv⟩ := hs
    exact ⟨v, H', J.os, J.bare, J.base, J.hok, rv, qv⟩
  | next =>
    obtain ⟨σ', H', J, qv⟩ := hs
    exact ⟨V.non, H', J.os, J.bare, J.base, J.hok, rfl, qv⟩
  | brk =>
    obtain ⟨_, _, _, z⟩ := hs
    exact z.elim
  | cont =>
    obtain ⟨_, _, _, z⟩ := hs
    exact z.elim
/-- the rule for a def of the text -/
theorem Fun.okG {x ql : Str} {st : Stmt} {fd : FuncData} {N ps : List Str} {sp : Sp} (F : Fun K x ql st f fd) (S : FnScope N ps (defScope st)) (len : ∀ vs H Q E, sp vs H Q E → vs.length = ps.length)
    (hb : ∀ (cdv : Value) (A : Around) (outer : List Env) (s : Shared) (H : Hp) (vs : List V) (Q : VK) (E : XK),
      Room k (A.deeper (PyProof.Rows.envOfC ql (defScope st) s.heap.objs.size f cdv)) → A.guards = some [] → sp vs H Q E →
      ∃ t, PSs (cxOf CX P w K mg base N ql (defScope st) f cdv A outer s H E) (defBody st) t ∧ t { nx := fun _ H' => Q .non H', rt := Q } (L2.start N vs) H) :
    FnG P w K mg base CX (k + 1) f fd ps sp := by
  obtain ⟨oc, od, kV, doc, pm, an, cdv, ct, osl, rfl, lk, hcd⟩ := F.ex
  exact fnG_of lk hcd S len fun A outer s H vs Q E r g h => hb cdv A outer s H vs Q E r g h
end

/-! ### a def over data -/
/-- an exception of the class at C; what it keeps -/
abbrev EK := Addr → Str → List D → Nat → Prop
abbrev TF := List D → Nat → DK → EK → Prop
def ExR (pn : Pw) (K : PySem.W.Frag) (H : Hp) (d : Option Addr) (fl : Str) (k : List D) : Prop :=
  (fl = "" ∧ k = [] ∧ d = none) ∨ ∃ (a : Addr) (v : V) (x : D), k = [x] ∧ d = some a ∧ H a = some (.xd [(fl, v)]) ∧ Rep pn K H v x
def spD (ar : Nat) (pn : Pw) (K : PySem.W.Frag) (rk : Kd) (f : TF) : Sp := fun vs H Q E => ∃ (l : List D) (n : Nat) (Qd : DK) (Ed : EK),
  Reps pn K H vs l ∧ PenOk pn K H n ∧ l.length = ar ∧ f l n Qd Ed ∧
  (∀ v H' y n', Xt pn H H' → PenOk pn K H' n' → RK rk pn K H H' v y → Qd y n' → Q v H') ∧
  (∀ C fl k n' d H', Xt pn H H' → PenOk pn K H' n' → ExR pn K H' d fl k → Ed C fl k n' → E (.ref C) d H')
theorem spD_len {ar : Nat} {pn : Pw} {K : PySem.W.Frag} {rk : Kd} {f : TF} {ps : List Str} (h : ar = ps.length) : ∀ vs H Q E, spD ar pn K rk f vs H Q E → vs.length = ps.length := fun vs H Q E ⟨l, n, Qd, Ed, r, _, e, _⟩ => by
  rw [r.length, e, h]
abbrev E0d : EK := fun _ _ _ _ => False
section
variable {X : Cx} {pn : Pw} {H0 : Hp} {CX : CXT} {k : Nat} {f : Addr} {fd : FuncData} {ps : List Str} {x : Str} {p pos : Pos} {e : Expr} {es : List Expr}
theorem run_fnG {sp : Sp} {E : XK} {pins : List (Addr × Obj)} {σ : L2.St} {H : Hp} {s : Shared} {Q : VK} {us : List Value} {vs : List V} (F : FnG X.prog X.w X.K X.mg X.base CX k f fd ps sp) (hr : Room k X.A) (hG : X.A.guards = some [])
    (hb : Binds X.K fd ps []) (hx : ∀ e s', CX X.stack H s E e s' → X.xe e s') (I : Inv X pins σ H s) (r : Vals vs us) (h : sp vs H Q E) :
    wpAny (model X.prog X.w) X.A (call (.ref f) us) (EP X pins σ Q) X.xe s := by
  have hl : us.length = ps.length := by rw [← r.length]; exact F.len _ _ _ _ h
  have bnd := hb s us I.kIn (by rw [List.append_nil]; exact hl)
  rw [List.append_nil] at bnd
  refine wpAny_call (codeAny_mono (F.run X.A X.stack s H ⟨us, []⟩ us vs Q E hr hG I.env0 bnd r h) fun r s' hq => ?_)
  cases r with
  | error e => exact hx e s' hq
  | ok fl =>
    cases fl with
    | ret u => exact I.after hq
    | next => exact False.elim hq
    | brk => exact False.elim hq
    | cont => exact False.elim hq
/-- f(..) over data; Ed: what is wanted of an exception that it lets out -/
def dCall (ar : Nat) (tf : TF) (Ed : EK) (t : TAD) : TD := fun e n Q => t e n fun l m => l.length = ar ∧ tf l m Q Ed
/-- what the context takes of a callee's exceptions -/
def Tak (X : Cx) (pn : Pw) (H0 : Hp) (CX : CXT) (Ed : EK) : Prop := ∀ (pins : List (Addr × Obj)) (σ : L2.St) (H : Hp) (e : En) (n : Nat) (s : Shared) (u : Value) (s' : Shared), Inv X pins σ H s → Good pn X.K H0 e n σ H →
  CX X.stack H s (fun cls d H' => ∃ C fl k n', cls = .ref C ∧ Xt pn H H' ∧ PenOk pn X.K H' n' ∧ ExR pn X.K H' d fl k ∧ Ed C fl k n') u s' → X.xe u s'
theorem tak0 {Ed : EK} : Tak X pn H0 CX0 Ed := fun _ _ _ _ _ _ _ _ _ _ h => h.elim
/-- the wish over data leads to the wish over the heap -/
def ELead (pn : Pw) (K : PySem.W.Frag) (H0 : Hp) (Ed : EK) (E : XK) : Prop := ∀ C fl k n' d H', Xt pn H0 H' → PenOk pn K H' n' → ExR pn K H' d fl k → Ed C fl k n' → E (.ref C) d H'
theorem tak_of {Ed : EK} {E : XK} (tk : Takes X fun cls d _ H => E cls d H) (hE : ELead pn X.K H0 Ed E) : Tak X pn H0 (L2.CX X.prog X.w) Ed := fun pins σ H e n s u s' I g c =>
  passes_call (E := fun cls d H' => ∃ C fl k n', cls = .ref C ∧ Xt pn H H' ∧ PenOk pn X.K H' n' ∧ ExR pn X.K H' d fl k ∧ Ed C fl k n') tk (fun cls d σ H' ⟨C, fl, k, n', e1, x1, p1, r1, q1⟩ => by
    subst e1
    exact hE C fl k n' d H' (g.stay.trans x1) p1 r1 q1) pins σ H s u s' I c
theorem pd_call {ar : Nat} {rk : Kd} {tf : TF} {t : TAD} {Ed : EK} (F : FnG X.prog X.w X.K X.mg X.base CX k f fd ps (spD ar pn X.K rk tf)) (hr : Room k X.A) (hG : X.A.guards = some []) (hg : Gl X x) (hm : X.mg x = some (.ref f)) (hk : PySem.W.keepIn X.K (.ref f) = true) (hb : Binds X.K fd ps [])
    (hx : Tak X pn H0 CX Ed) (ha : PDA X pn H0 (e :: es) t) (hdb : (x == ("__debug__" : Str)) = false := by decide) (he : starEach (e :: es) X.env = (false, eval e X.env) :: starEach es X.env := by rfl)
    (hpl : (backTo pos (starEach es X.env)).any (·.1) = false := by rfl) : PD X pn H0 rk (.Call (.Name x p) (e :: es) [] pos) (dCall ar tf Ed t) := by
  refine ⟨fun pins s σ H Q I ⟨en, n, Qd, g, ht, q⟩ => ?_⟩
  refine wpAny_Call_Name_kw (ld_glob I hg hm ?_ hdb)
  refine PySem.W.callWith_K (h₀ := X.base) I.ok.mod.kin hk (thn (ha.run pos pins s σ H (fun vs H1 => ∃ l n1, Good pn X.K H0 en n1 σ H1 ∧ Xt pn H H1 ∧ Reps pn X.K H1 vs l ∧ l.length = ar ∧ tf l n1 Qd Ed) I
    ⟨en, n, _, g, ht, fun vs H' l n' g' x' r' h' => ⟨l, n', g', x', r', h'.1, h'.2⟩⟩) fun us s1 ⟨vs, H1, I1, r, l, n1, g1, x1, rl, hll, q1⟩ => ⟨I1.kIn, ?_⟩) he hpl
  refine run_fnG (E := fun cls d H' => ∃ C fl k n', cls = .ref C ∧ Xt pn H1 H' ∧ PenOk pn X.K H' n' ∧ ExR pn X.K H' d fl k ∧ Ed C fl k n') F hr hG hb (fun u s' c => hx pins σ H1 en n1 s1 u s' I1 g1 c) I1 r
    ⟨l, n1, Qd, Ed, rl, g1.pen, hll, q1, fun v H' y n' x' p' r' q' => ?_, fun C fl k n' d H' x' p' r' q' => ⟨C, fl, k, n', rfl, x', p', r', q'⟩⟩
  exact q v H' y n' (g1.xt x' p') (x1.trans x') (r'.back x1 g1.pen) q'
end
end VD

set_option Elab.async false
set_option linter.all false
set_option maxRecDepth 100000
set_option maxHeartbeats 4000000
namespace VD
open PySem L2

/-! ### statements -/
structure DE where
  nx : En → Nat → Prop
  rt : D → Nat → Prop
  bk : En → Nat → Prop := fun _ _ => False
  ct : En → Nat → Prop := fun _ _ => False
abbrev TSD := DE → En → Nat → Prop
/-- the ends over data lead to the ends over the heap -/
structure Leads (pn : Pw) (K : PySem.W.Frag) (rk : Kd) (H0 H : Hp) (F : DE) (E : Ends) : Prop where
  nx : ∀ σ' H' e' n', Good pn K H0 e' n' σ' H' → Gr H H' → F.nx e' n' → E.nx σ' H'
  rt : ∀ v σ' H' y n' e', Good pn K H0 e' n' σ' H' → RK rk pn K H0 H' v y → F.rt y n' → E.rt v H'
  bk : ∀ σ' H' e' n', Good pn K H0 e' n' σ' H' → Gr H H' → F.bk e' n' → E.bk σ' H'
  ct : ∀ σ' H' e' n', Good pn K H0 e' n' σ' H' → Gr H H' → F.ct e' n' → E.ct σ' H'
def upS (pn : Pw) (H0 : Hp) (K : PySem.W.Frag) (rk : Kd) (t : TSD) : TS := fun E σ H => ∃ (e : En) (n : Nat) (F : DE), Good pn K H0 e n σ H ∧ t F e n ∧ Leads pn K rk H0 H F E
abbrev PSD (X : Cx) (pn : Pw) (H0 : Hp) (rk : Kd) (st : Stmt) (t : TSD) : Prop := PS X st (upS pn H0 X.K rk t)
abbrev PSDs (X : Cx) (pn : Pw) (H0 : Hp) (rk : Kd) (st : List Stmt) (t : TSD) : Prop := PSs X st (upS pn H0 X.K rk t)
theorem Leads.later {pn : Pw} {K : PySem.W.Frag} {rk : Kd} {H0 H H1 : Hp} {F : DE} {E : Ends} (l : Leads pn K rk H0 H F E) (g : Gr H H1) : Leads pn K rk H0 H1 F E :=
  ⟨fun σ' H' e' n' a b c => l.nx σ' H' e' n' a (g.trans b) c, l.rt, fun σ' H' e' n' a b c => l.bk σ' H' e' n' a (g.trans b) c, fun σ' H' e' n' a b c => l.ct σ' H' e' n' a (g.trans b) c⟩

def dNext : TSD := fun F e n => F.nx e n
def dSeq (t u : TSD) : TSD := fun F e n => t { F with nx := u F } e n
def dIfS (c : TTD) (t u : TSD) : TSD := fun F e n => c e n fun b m => if b = true then t F e m else u F e m
def dRet (t : TD) : TSD := fun F e n => t e n F.rt
def dRetN : TSD := fun F _ n => F.rt .non n
def dRetO (i : Nat) : TSD := fun F e n => match e[i]? with
  | some (some (.own l)) => F.rt (.lst l) n
  | _ => False
def dDrop (t : TD) : TSD := fun F e n => t e n fun _ m => F.nx e m
def dSet (i : Nat) (t : TD) : TSD := fun F e n => t e n fun x m => F.nx (e.set i (some (.d x))) m
def asL : D → Option (List D)
  | .lst l => some l
  | _ => none
def dSetO (i : Nat) (t : TD) : TSD := fun F e n => t e n fun x m => opt (asL x) fun l => F.nx (e.set i (some (.own l))) m
theorem asL_some {x : D} {l : List D} (h : asL x = some l) : x = .lst l := by
  unfold asL at h
  split at h
  · cases h
    rfl
  · cases h
def ownAt (e : En) (i : Nat) : Option (List D) := match e[i]? with
  | some (some (.own l)) => some l
  | _ => none
theorem ownAt_some {e : En} {i : Nat} {l : List D} (h : ownAt e i = some l) : e[i]? = some (some (.own l)) := by
  unfold ownAt at h
  split at h
  · rename_i h2
    cases h
    exact h2
  · cases h
def dApp (i : Nat) (t : TD) : TSD := fun F e n => opt (ownAt e i) fun l => t e n fun x m => l.length < 100000 ∧ F.nx (e.set i (some (.own (l ++ [x])))) m
def dExt (i : Nat) (t : TD) : TSD := fun F e n => opt (ownAt e i) fun l => t e n fun x m => opt (asL x) fun k => l.length + k.length ≤ 100000 ∧ F.nx (e.set i (some (.own (l ++ k)))) m
def dPut (i : Nat) (tk tv : TD) : TSD := fun F e n => opt (ownAt e i) fun l => tv e n fun x m => tk e m fun j k => opt (asI j) fun z => opt (ixN l.length z) fun q => F.nx (e.set i (some (.own (l.set q x)))) k
/-- a slot's list is given away -/
def dFrz (i : Nat) (t : TSD) : TSD := fun F e n => opt (ownAt e i) fun l => t F (e.set i (some (.d (.lst l)))) n
def dBreak : TSD := fun F e n => F.bk e n
def dCont : TSD := fun F e n => F.ct e n
def dRaise (C : Addr) (Ed : EK) : TSD := fun _ _ n => Ed C "" [] n

section
variable {X : Cx} {pn : Pw} {H0 : Hp} {rk : Kd} {pos : Pos} {st : Stmt} {rest : List Stmt} {t u : TSD} {e : Expr} {te : TD}
theorem psd_nil : PSDs X pn H0 rk [] dNext := pss_wk pss_nil fun E σ H ⟨en, n, F, g, ht, q⟩ => q.nx σ H en n g (Gr.refl H) ht
theorem psd_cons (h1 : PSD X pn H0 rk st t) (h2 : PSDs X pn H0 rk rest u) : PSDs X pn H0 rk (st :: rest) (dSeq t u) := pss_wk (pss_cons h1 h2) fun E σ H ⟨en, n, F, g, ht, q⟩ =>
  ⟨en, n, _, g, ht, fun σ' H' e' n' a b c => ⟨e', n', F, a, c, q.later b⟩, q.rt, q.bk, q.ct⟩
theorem psd_one (h1 : PSD X pn H0 rk st t) : PSDs X pn H0 rk [st] t := pss_one h1
theorem psd_pass : PSD X pn H0 rk (.Pass pos) dNext := ps_wk ps_pass fun E σ H ⟨en, n, F, g, ht, q⟩ => q.nx σ H en n g (Gr.refl H) ht
theorem psd_break : PSD X pn H0 rk (.Break pos) dBreak := ps_wk ps_break fun E σ H ⟨en, n, F, g, ht, q⟩ => q.bk σ H en n g (Gr.refl H) ht
theorem psd_continue : PSD X pn H0 rk (.Continue pos) dCont := ps_wk ps_continue fun E σ H ⟨en, n, F, g, ht, q⟩ => q.ct σ H en n g (Gr.refl H) ht
theorem psd_if {c : Expr} {a b : List Stmt} {tc : TTD} (hc : PDT X pn H0 c tc) (ha : PSDs X pn H0 rk a t) (hb : PSDs X pn H0 rk b u) : PSD X pn H0 rk (.If c a b pos) (dIfS tc t u) := ps_wk (ps_if hc ha hb) fun E σ H ⟨en, n, F, g, ht, q⟩ =>
  ⟨en, n, _, g, ht, fun d H' n' g' x' h' => by
    cases d with
    | true =>
      rw [if_pos rfl] at h' ⊢
      exact ⟨en, n', F, g', h', q.later (x'.gr g.pen)⟩
    | false =>
      rw [if_neg Bool.false_ne_true] at h' ⊢
      exact ⟨en, n', F, g', h', q.later (x'.gr g.pen)⟩⟩
theorem psd_ret (h : PD X pn H0 .m e te) : PSD X pn H0 .m (.Return (some e) pos) (dRet te) := ps_wk (ps_ret h) fun E σ H ⟨en, n, F, g, ht, q⟩ => ⟨en, n, _, g, ht, fun v H' y n' g' x' r' h' => q.rt v σ H' y n' en g' r' h'⟩
theorem good_back {K : PySem.W.Frag} {H0 H : Hp} {en : En} {n : Nat} {σ : L2.St} {p : Addr} (g : Good pn K H0 en n σ H) (h : H p = none) : H0 p = none := fresh_back g.stay g.pen h
theorem psd_retF (h : PD X pn H0 .f e te) : PSD X pn H0 .f (.Return (some e) pos) (dRet te) := ps_wk (ps_ret h) fun E σ H ⟨en, n, F, g, ht, q⟩ => ⟨en, n, _, g, ht, fun v H' y n' g' x' r' h' => by
  obtain ⟨p, vs, l, e1, e2, e3, e4, e5⟩ := r'
  exact q.rt v σ H' y n' en g' ⟨p, vs, l, e1, e2, good_back g e3, e4, e5⟩ h'⟩
theorem psd_retO (i : Nat) {x : Str} {p : Pos} (hN : X.N[i]? = some x := by rfl) (hv : Vis X.env.scope x := by first | exact Or.inl rfl | exact Or.inr (Or.inl rfl) | exact Or.inr (Or.inr rfl)) (hd : (x == ("__debug__" : Str)) = false := by decide)
    (hcd : (x == ("__classdict__" : Str)) = false := by decide) : PSD X pn H0 .f (.Return (some (.Name x p)) pos) (dRetO i) := ps_wk (ps_ret (pe_var hN hv hd hcd)) fun E σ H ⟨en, n, F, g, ht, q⟩ => by
  unfold dRetO at ht
  split at ht
  · rename_i l hl
    obtain ⟨a, vs, h1, h2, h3, h4, h5⟩ := g.own i l hl
    exact ⟨.ref a, h1, q.rt _ σ H _ n en g ⟨a, vs, l, rfl, rfl, h4, h2, h3⟩ ht⟩
  · exact ht.elim
theorem psd_retN : PSD X pn H0 .m (.Return none pos) dRetN := ps_wk ps_retN fun E σ H ⟨en, n, F, g, ht, q⟩ => q.rt _ σ H _ n en g .non ht
theorem psd_expr {k : Kd} (h : PD X pn H0 k e te) (hs : swapsWith e none pos.line X.env = pure false := by rfl) : PSD X pn H0 rk (.Expr e pos) (dDrop te) := ps_wk (ps_expr h hs) fun E σ H ⟨en, n, F, g, ht, q⟩ => ⟨en, n, _, g, ht, fun v H' y n' g' x' r' h' => q.nx σ H' en n' g' (x'.gr g.pen) h'⟩
theorem psd_set (i : Nat) {x : Str} {pos' : Pos} (hN : X.N.Nodup) (h : PD X pn H0 .m e te) (hi : X.N[i]? = some x := by rfl) (hx : Loc X.env.scope x := by first | exact .inl rfl | exact .inr rfl) (hs : swapsWith e (some (.Name x pos')) pos.line X.env = pure false := by rfl) (hf : X.fn x = true ∨ X.env.scope.names.lookup x = some .local := by first | exact .inl rfl | exact .inr rfl) :
    PSD X pn H0 rk (.Assign [.Name x pos'] e pos) (dSet i te) := ps_wk (ps_set (i := i) hN hi hx h hs hf) fun E σ H ⟨en, n, F, g, ht, q⟩ => ⟨en, n, _, g, ht, fun v H' y n' g' x' r' h' => q.nx _ H' _ n' (g'.set r') (x'.gr g.pen) h'⟩
theorem un_fresh {K : PySem.W.Frag} {H0 H : Hp} {en : En} {n : Nat} {σ : L2.St} {p : Addr} (g : Good pn K H0 en n σ H) (h : H p = none) : ∀ (j : Nat) m, en[j]? = some (some (.own m)) → σ[j]? ≠ some (some (.ref p)) := fun j m hj z => by
  obtain ⟨a, vs, h1, h2, _⟩ := g.own j m hj
  rw [z] at h1
  cases h1
  rw [h] at h2
  cases h2
theorem psd_setO (i : Nat) {x : Str} {pos' : Pos} (hN : X.N.Nodup) (h : PD X pn H0 .f e te) (hi : X.N[i]? = some x := by rfl) (hx : Loc X.env.scope x := by first | exact .inl rfl | exact .inr rfl) (hs : swapsWith e (some (.Name x pos')) pos.line X.env = pure false := by rfl) (hf : X.fn x = true ∨ X.env.scope.names.lookup x = some .local := by first | exact .inl rfl | exact .inr rfl) :
    PSD X pn H0 rk (.Assign [.Name x pos'] e pos) (dSetO i te) := ps_wk (ps_set (i := i) hN hi hx h hs hf) fun E σ H ⟨en, n, F, g, ht, q⟩ => ⟨en, n, _, g, ht, fun v H' y n' g' x' r' h' => by
  obtain ⟨l, e0, h2⟩ := opt_some h'
  have e1 := asL_some e0
  subst e1
  obtain ⟨p, vs, l', rfl, e2, e3, e4, e5⟩ := r'
  cases e2
  exact q.nx _ H' _ n' (g'.setOwn e4 e5 (good_back g e3) (g.pen.ne e3) fun j m _ hj => un_fresh g e3 j m hj) (x'.gr g.pen) h2⟩
/-- xs.append(e), xs the def's own -/
theorem psd_app (i : Nat) {x : Str} {p apos cpos : Pos} (h : PD X pn H0 .m e te) (hN : X.N[i]? = some x := by rfl) (hv : Vis X.env.scope x := by first | exact Or.inl rfl | exact Or.inr (Or.inl rfl)) (hd : (x == ("__debug__" : Str)) = false := by decide) (hcd : (x == ("__classdict__" : Str)) = false := by decide)
    (hs : swapsWith (.Call (.Attribute (.Name x p) "append" apos) (e :: []) [] cpos) none pos.line X.env = pure false := by rfl)
    (hbase : attributeBase (.Name x p) "append" X.env (eval (.Name x p) X.env) = eval (.Name x p) X.env := by rfl) (hfew : ((backTo cpos (starEach (e :: []) X.env)).all (fun x => !x.1) && (backToKw cpos (keywordEach [] X.env)).all (fun x => x.1.isSome)
      && decide ((e :: []).length + ([] : List Keyword).length + (if ([] : List Keyword).isEmpty then 0 else 1) < 30)) = true := by rfl)
    (hline : (apos.endLine == cpos.line) = true := by rfl) (hs2 : starEach (e :: []) X.env = (false, eval e X.env) :: starEach [] X.env := by rfl) (hplain : (backTo cpos (starEach [] X.env)).any (·.1) = false := by rfl) :
    PSD X pn H0 rk (.Expr (.Call (.Attribute (.Name x p) "append" apos) (e :: []) [] cpos) pos) (dApp i te) :=
  ps_wk (ps_expr (pe_bm PySem.F.plainAttrs_list PySem.F.slot_list_append PySem.F.type_list_append mt_append (pe_var hN hv hd hcd) (pa_cons h pa_nil hs2) hbase hfew hline hs2 hplain) hs) fun E σ H ⟨en, n, F, g, ht, q⟩ => by
    obtain ⟨l, e1, ht⟩ := opt_some ht
    have hi := ownAt_some e1
    obtain ⟨a, vs, h1, h2, h3, h4, h5⟩ := g.own i l hi
    refine ⟨.ref a, h1, .inl ⟨rfl, vs, SqL.of h2⟩, ⟨en, n, _, g, ht, fun v H1 y n1 g1 x1 r1 q1 => ?_⟩⟩
    have h2' := x1 _ _ h2 h5
    have h3' := h3.gr (x1.gr g.pen)
    refine ⟨a, vs, v, rfl, rfl, h2', ?_, ?_⟩
    · rw [h3.length]
      exact Nat.lt_of_lt_of_le q1.1 (by decide)
    · exact q.nx σ _ _ n1 (g1.put hi h1 h2' (h3'.append (.cons r1 .nil))) ((x1.gr g.pen).trans (Gr.mut h2' fun z => z)) q1.2
/-- xs.extend(e), e a new list -/
theorem psd_ext (i : Nat) {x : Str} {p apos cpos : Pos} (h : PD X pn H0 .f e te) (hN : X.N[i]? = some x := by rfl) (hv : Vis X.env.scope x := by first | exact Or.inl rfl | exact Or.inr (Or.inl rfl)) (hd : (x == ("__debug__" : Str)) = false := by decide) (hcd : (x == ("__classdict__" : Str)) = false := by decide)
    (hs : swapsWith (.Call (.Attribute (.Name x p) "extend" apos) (e :: []) [] cpos) none pos.line X.env = pure false := by rfl)
    (hbase : attributeBase (.Name x p) "extend" X.env (eval (.Name x p) X.env) = eval (.Name x p) X.env := by rfl) (hfew : ((backTo cpos (starEach (e :: []) X.env)).all (fun x => !x.1) && (backToKw cpos (keywordEach [] X.env)).all (fun x => x.1.isSome)
      && decide ((e :: []).length + ([] : List Keyword).length + (if ([] : List Keyword).isEmpty then 0 else 1) < 30)) = true := by rfl)
    (hline : (apos.endLine == cpos.line) = true := by rfl) (hs2 : starEach (e :: []) X.env = (false, eval e X.env) :: starEach [] X.env := by rfl) (hplain : (backTo cpos (starEach [] X.env)).any (·.1) = false := by rfl) :
    PSD X pn H0 rk (.Expr (.Call (.Attribute (.Name x p) "extend" apos) (e :: []) [] cpos) pos) (dExt i te) :=
  ps_wk (ps_expr (pe_bm PySem.F.plainAttrs_list PySem.F.slot_list_extend PySem.F.type_list_extend mt_extend (pe_var hN hv hd hcd) (pa_cons h pa_nil hs2) hbase hfew hline hs2 hplain) hs) fun E σ H ⟨en, n, F, g, ht, q⟩ => by
    obtain ⟨l, e1, ht⟩ := opt_some ht
    have hi := ownAt_some e1
    obtain ⟨a, vs, h1, h2, h3, h4, h5⟩ := g.own i l hi
    refine ⟨.ref a, h1, .inl ⟨rfl, vs, SqL.of h2⟩, ⟨en, n, _, g, ht, fun v H1 y n1 g1 x1 r1 q1 => ?_⟩⟩
    obtain ⟨k, e2, q2⟩ := opt_some q1
    have e3 := asL_some e2
    subst e3
    obtain ⟨p, ws, m, rfl, e4, e5, e6, e7⟩ := r1
    cases e4
    have h2' := x1 _ _ h2 h5
    have h3' := h3.gr (x1.gr g.pen)
    refine ⟨a, p, vs, ws, rfl, rfl, h2', e6, ?_, ?_⟩
    · rw [h3.length, e7.length]
      exact small_le q2.1
    · exact q.nx σ _ _ n1 (g1.put hi h1 h2' (h3'.append e7)) ((x1.gr g.pen).trans (Gr.mut h2' fun z => z)) q2.2
/-- xs[k] = e -/
theorem psd_put (i : Nat) {x : Str} {p spos : Pos} {ek : Expr} {tk : TD} (h : PD X pn H0 .m e te) (hk : PD X pn H0 .m ek tk) (hN : X.N[i]? = some x := by rfl) (hv : Vis X.env.scope x := by first | exact Or.inl rfl | exact Or.inr (Or.inl rfl)) (hd : (x == ("__debug__" : Str)) = false := by decide) (hcd : (x == ("__classdict__" : Str)) = false := by decide)
    (ha : ∀ v, assign (.Subscript (.Name x p) ek spos) X.env v = (do
      let ov ← holding [v] (eval (.Name x p) X.env)
      let iv ← holding [v, ov] (eval ek X.env)
      standAt spos
      holding [v, ov, iv] (setItem ov iv v)
      release [v, ov, iv] []) := by intro _; rfl)
    (hs : swapsWithSole [.Subscript (.Name x p) ek spos] e pos.line X.env = pure false := by rfl) (hw : swappedStores [.Subscript (.Name x p) ek spos] e X.env = pure none := by rfl)
    (hA : (assignEach [.Subscript (.Name x p) ek spos] X.env).map (·.2) = [assign (.Subscript (.Name x p) ek spos) X.env] := by rfl) :
    PSD X pn H0 rk (.Assign [.Subscript (.Name x p) ek spos] e pos) (dPut i tk te) :=
  ps_wk (ps_asg h (pg_sub (pe_var hN hv hd hcd) hk set_list ha) hs hw hA) fun E σ H ⟨en, n, F, g, ht, q⟩ => by
    obtain ⟨l, e1, ht⟩ := opt_some ht
    have hi := ownAt_some e1
    obtain ⟨a, vs, h1, h2, h3, h4, h5⟩ := g.own i l hi
    refine ⟨en, n, _, g, ht, fun v H1 y n1 g1 x1 r1 q1 => ⟨.ref a, h1, en, n1, _, g1, q1, fun w H2 z n2 g2 x2 r2 q2 => ?_⟩⟩
    obtain ⟨j, e2, q3⟩ := opt_some q2
    obtain ⟨k, e3, q4⟩ := opt_some q3
    have e4 := asI_some e2
    subst e4
    have x3 := x1.trans x2
    have h2' := x3 _ _ h2 h5
    have h3' := h3.gr (x3.gr g.pen)
    refine ⟨a, vs, j, k, rfl, RepX.int (.inl r2), h2', by rw [h3.length]; exact e3, ?_⟩
    exact q.nx σ _ _ n2 (g2.put hi h1 h2' (h3'.set (Rep.gr (x2.gr g1.pen) r1) k)) ((x3.gr g.pen).trans (Gr.mut h2' fun z => z)) q4
/-- an owned list is frozen where it stands -/
theorem Good.frz {K : PySem.W.Frag} {H0 H : Hp} {en : En} {n : Nat} {σ : L2.St} {i : Nat} {l : List D} {a : Addr} {vs : List V} {o : Obj} (g : Good pn K H0 en n σ H) (hi : en[i]? = some (some (.own l))) (hs : σ[i]? = some (some (.ref a))) (h : H a = some (.lst vs)) :
    Good pn K H0 (en.set i (some (.d (.lst l)))) n σ (upd H a (.frz o (.lst vs))) := by
  obtain ⟨a', vs', s1, s2, s3, s4, s5⟩ := g.own i l hi
  rw [hs] at s1
  cases s1
  rw [h] at s2
  cases s2
  have gr : Gr H (upd H a (.frz o (.lst vs))) := Gr.mut h (fun z => z)
  have hl : i < en.length := by
    rcases Nat.lt_or_ge i en.length with z | z
    · exact z
    · rw [List.getElem?_eq_none z] at hi
      cases hi
  refine ⟨by rw [List.length_set]; exact g.len, fun j y z => ?_, fun j m z => ?_, fun j k m m' b hjk z1 z2 z3 => ?_, fun b w z1 z2 => ?_, g.pen.xt gr fun b hb => upd_ne fun z => s5 (by rw [← z]; exact hb)⟩
  · by_cases c : i = j
    · subst c
      rw [List.getElem?_set_self hl] at z
      cases z
      exact ⟨.ref a, hs, .lst ⟨o, upd_same⟩ (s3.gr gr)⟩
    · rw [List.getElem?_set_ne c] at z
      obtain ⟨v, z1, z2⟩ := g.dat j y z
      exact ⟨v, z1, z2.gr gr⟩
  · by_cases c : i = j
    · subst c
      rw [List.getElem?_set_self hl] at z
      cases z
    · rw [List.getElem?_set_ne c] at z
      obtain ⟨b, us, z1, z2, z3, z4, z5⟩ := g.own j m z
      have nb : b ≠ a := by
        rintro rfl
        exact g.ne j i m l b (Ne.symm c) z hi z1 hs
      exact ⟨b, us, z1, by rw [upd_ne nb]; exact z2, z3.gr gr, z4, z5⟩
  · have cj : i ≠ j := by
      rintro rfl
      rw [List.getElem?_set_self hl] at z1
      cases z1
    have ck : i ≠ k := by
      rintro rfl
      rw [List.getElem?_set_self hl] at z2
      cases z2
    rw [List.getElem?_set_ne cj] at z1
    rw [List.getElem?_set_ne ck] at z2
    exact g.ne j k m m' b hjk z1 z2 z3
  · have nb : b ≠ a := by
      rintro rfl
      rw [s4] at z1
      cases z1
    rw [upd_ne nb]
    exact g.stay b w z1 z2
theorem psd_frz (i : Nat) (h : PSDs X pn H0 rk (st :: rest) t) : PSDs X pn H0 rk (st :: rest) (dFrz i t) := by
  refine ⟨fun pins s σ H E I ⟨en, n, F, g, ht, q⟩ => ?_⟩
  obtain ⟨l, e1, ht⟩ := opt_some ht
  have hi := ownAt_some e1
  obtain ⟨a, vs, h1, h2, h3, h4, h5⟩ := g.own i l hi
  obtain ⟨o, I2⟩ := Inv.freeze I h2
  exact h.run pins s σ _ E I2 ⟨_, n, F, g.frz hi h1 h2, ht, q.later (Gr.mut h2 fun z => z)⟩
end
end VD

set_option Elab.async false
set_option linter.all false
set_option maxRecDepth 100000
set_option maxHeartbeats 4000000
namespace VD
open PySem L2

/-! ### targets -/
abbrev GD := D → En → Option En
/-- but for the slots ws -/
def Agr (ws : List Nat) (σ' σ : L2.St) : Prop := σ'.length = σ.length ∧ ∀ j, j ∉ ws → σ'[j]? = σ[j]?
def upG (pn : Pw) (H0 : Hp) (K : PySem.W.Frag) (ws : List Nat) (g : GD) : TG := fun v σ H Q => ∃ (e : En) (n : Nat) (x : D) (e' : En), Good pn K H0 e n σ H ∧ Rep pn K H v x ∧ g x e = some e' ∧
  ∀ σ', Good pn K H0 e' n σ' H → Agr ws σ' σ → Q σ' H
abbrev PGD (X : Cx) (pn : Pw) (H0 : Hp) (ws : List Nat) (tg : Expr) (g : GD) : Prop := PG X tg (upG pn H0 X.K ws g)
theorem pg_wk {X : Cx} {e : Expr} {t t' : TG} (h : PG X e t) (w : ∀ v σ H Q, t' v σ H Q → t v σ H Q) : PG X e t' := ⟨fun pins s σ H v u Q I r q => h.run pins s σ H v u Q I r (w v σ H Q q)⟩
def gNm (i : Nat) : GD := fun x e => some (e.set i (some (.d x)))
def upGs (pn : Pw) (H0 : Hp) (K : PySem.W.Frag) (ws : List Nat) (g : List D → En → Option En) : TGs := fun vs σ H Q => ∃ (e : En) (n : Nat) (l : List D) (e' : En), Good pn K H0 e n σ H ∧ Reps pn K H vs l ∧ g l e = some e' ∧
  ∀ σ', Good pn K H0 e' n σ' H → Agr ws σ' σ → Q σ' H
theorem pgs_wk {X : Cx} {es : List Expr} {t t' : TGs} (h : PGs X es t) (w : ∀ v σ H Q, t' v σ H Q → t v σ H Q) : PGs X es t' := ⟨fun pins s σ H v u Q I r q => h.run pins s σ H v u Q I r (w v σ H Q q)⟩
abbrev PGDs (X : Cx) (pn : Pw) (H0 : Hp) (ws : List Nat) (ts : List Expr) (g : List D → En → Option En) : Prop := PGs X ts (upGs pn H0 X.K ws g)
def gNl : List D → En → Option En
  | [], e => some e
  | _, _ => none
def gCn (g : GD) (h : List D → En → Option En) : List D → En → Option En
  | x :: l, e => (g x e).bind fun e' => h l e'
  | _, _ => none
def gTp (h : List D → En → Option En) : GD := fun x e => match x with
  | .tup l => h l e
  | _ => none
section
variable {X : Cx} {pn : Pw} {H0 : Hp} {pos : Pos}
theorem pgd_nm (i : Nat) {x : Str} (hN : X.N.Nodup) (hi : X.N[i]? = some x := by rfl) (hx : Loc X.env.scope x := by first | exact .inl rfl | exact .inr rfl) (hf : X.fn x = true ∨ X.env.scope.names.lookup x = some .local := by first | exact .inl rfl | exact .inr rfl | assumption) : PGD X pn H0 [i] (.Name x pos) (gNm i) :=
  pg_wk (pg_name (i := i) hN hi hx hf) fun v σ H Q ⟨e, n, y, e', g, r, h, q⟩ => by
    cases h
    exact q _ (g.set r) ⟨List.length_set, fun j hj => List.getElem?_set_ne fun z => hj (by rw [z]; exact List.mem_cons_self)⟩
theorem pgds_nil : PGDs X pn H0 [] [] gNl := pgs_wk pgs_nil fun vs σ H Q ⟨e, n, l, e', g, r, h, q⟩ => by
  cases l with
  | cons x l => cases h
  | nil =>
    cases h
    cases r
    exact ⟨rfl, q σ g ⟨rfl, fun _ _ => rfl⟩⟩
theorem pgds_cons {a : Expr} {es : List Expr} {ws vs : List Nat} {g : GD} {k : List D → En → Option En} (h1 : PGD X pn H0 ws a g) (h2 : PGDs X pn H0 vs es k) (hs : (assignEach (a :: es) X.env).map (·.2) = assign a X.env :: (assignEach es X.env).map (·.2) := by rfl) : PGDs X pn H0 (ws ++ vs) (a :: es) (gCn g k) :=
  pgs_wk (pgs_cons h1 h2 hs) fun us σ H Q ⟨e, n, l, e', gd, r, h, q⟩ => by
    cases l with
    | nil => cases h
    | cons x l =>
      cases r with
      | cons r1 r2 =>
        obtain ⟨e1, q1, q2⟩ := Option.bind_eq_some_iff.mp h
        refine ⟨_, _, rfl, e, n, x, e1, gd, r1, q1, fun σ1 g1 k1 => ⟨e1, n, l, e', g1, r2, q2, fun σ2 g2 k2 => q σ2 g2 ⟨k2.1.trans k1.1, fun j hj => ?_⟩⟩⟩
        rw [k2.2 j fun z => hj (List.mem_append_right _ z), k1.2 j fun z => hj (List.mem_append_left _ z)]
theorem pgd_tup {es : List Expr} {ws : List Nat} {k : Nat} {g : List D → En → Option En} (hc : X.calm = true) (h : PGDs X pn H0 ws es g) (hn : (assignEach es X.env).length = es.length := by rfl) (hst : (assignEach es X.env).findIdx? (·.1) = none := by rfl)
    (hl : ∀ l e e', g l e = some e' → l.length = es.length := by intro l e e' h; match l, h with | [_, _], _ => rfl | [_], _ => rfl | [_, _, _], _ => rfl) : PGD X pn H0 ws (.Tuple es k pos) (gTp g) :=
  pg_wk (pg_tup hc h hn hst) fun v σ H Q ⟨e, n, x, e', gd, r, q1, q⟩ => by
    unfold gTp at q1
    split at q1
    · rename_i l
      obtain ⟨a, vs, rfl, h1, h2⟩ := RepX.tup (.inl r)
      exact ⟨a, vs, rfl, h1, by rw [h2.length]; exact hl l e e' q1, e, n, l, e', gd, h2, q1, q⟩
    · cases q1
end

/-! ### what is walked -/
abbrev TID := En → Nat → (List D → Nat → Prop) → Prop
/-- J walks over l, from whatever the heap has become -/
structure ItD (pn : Pw) (K : PySem.W.Frag) (J : It) (l : List D) (H1 : Hp) : Prop where
  go : ∀ H i, Gr H1 H → i < l.length → J.go i H
  yl : ∀ H i x H', Gr H1 H → i < l.length → J.yld i H x H' → ∃ y, l[i]? = some y ∧ Rep pn K H' x y ∧ (H' = H ∨ ∃ p o, H p = none ∧ H' = upd H p o)
  st : ∀ H, Gr H1 H → J.stop l.length H
def upI (pn : Pw) (H0 : Hp) (K : PySem.W.Frag) (t : TID) : TI := fun σ H R => ∃ (e : En) (n : Nat) (Qd : List D → Nat → Prop), Good pn K H0 e n σ H ∧ t e n Qd ∧
  ∀ J H' l n', Good pn K H0 e n' σ H' → Xt pn H H' → ItD pn K J l H' → Qd l n' → R J H'
abbrev PID (X : Cx) (pn : Pw) (H0 : Hp) (tg iter : Expr) (t : TID) : Prop := PI X tg iter (upI pn H0 X.K t)
theorem pi_wk {X : Cx} {tg e : Expr} {t t' : TI} (h : PI X tg e t) (w : ∀ σ H R, t' σ H R → t σ H R) : PI X tg e t' := ⟨fun pins s σ H R I q => h.run pins s σ H R I (w σ H R q)⟩
def asTp : D → Option (List D)
  | .tup l => some l
  | _ => none
theorem asTp_some {x : D} {l : List D} (h : asTp x = some l) : x = .tup l := by
  unfold asTp at h
  split at h
  · cases h
    rfl
  · cases h
def iL (t : TD) : TID := fun e n Q => t e n fun x m => opt (asL x) fun l => Q l m
def iT (t : TD) : TID := fun e n Q => t e n fun x m => opt (asTp x) fun l => Q l m
section
variable {X : Cx} {pn : Pw} {H0 : Hp} {tg a b : Expr} {ta tb : TD} {pos : Pos}
theorem fz_inj {H : Hp} {a : Addr} {xs ys : List V} {o : Obj} (h : H a = some (.frz o (.lst xs))) {K : PySem.W.Frag} (ok : ∀ zs, SqL K H a zs → zs = xs) (q : SqL K H a ys) : ys = xs := ok ys q
theorem itD_list {K : PySem.W.Frag} {c : Addr} {vs : List V} {l : List D} {H : Hp} (h : FzL K H c vs) (r : Reps pn K H vs l) : ItD pn K (Itl K c) l H where
  go := fun H' i g hi => by
    obtain ⟨x, hx⟩ : ∃ x, l[i]? = some x := ⟨_, List.getElem?_eq_getElem hi⟩
    obtain ⟨v, hv, _⟩ := r.get hx
    exact ⟨vs, v, (h.gr g).sq, hv⟩
  yl := fun H' i x H2 g _ y => by
    obtain ⟨rfl, y⟩ := y
    obtain ⟨z, h1, h2⟩ := r.getV (y vs (h.gr g).sq)
    exact ⟨z, h1, h2.gr g, .inl rfl⟩
  st := fun H' g => ⟨vs, (h.gr g).sq, by rw [r.length]; exact Nat.le_refl _⟩
theorem itD_tup {K : PySem.W.Frag} {c : Addr} {vs : List V} {l : List D} {H : Hp} (h : SqT K H c vs) (r : Reps pn K H vs l) : ItD pn K (Itt K c) l H where
  go := fun H' i g hi => by
    obtain ⟨x, hx⟩ : ∃ x, l[i]? = some x := ⟨_, List.getElem?_eq_getElem hi⟩
    obtain ⟨v, hv, _⟩ := r.get hx
    exact ⟨vs, v, sqT_gr g h, hv⟩
  yl := fun H' i x H2 g _ y => by
    obtain ⟨rfl, y⟩ := y
    obtain ⟨z, h1, h2⟩ := r.getV (y vs (sqT_gr g h))
    exact ⟨z, h1, h2.gr g, .inl rfl⟩
  st := fun H' g => ⟨vs, sqT_gr g h, by rw [r.length]; exact Nat.le_refl _⟩
theorem pid_list (h : PD X pn H0 .m a ta) : PID X pn H0 tg a (iL ta) := pi_wk (pi_list h) fun σ H R ⟨e, n, Qd, g, ht, q⟩ => ⟨e, n, _, g, ht, fun v H1 x n1 g1 x1 r1 h1 => by
  obtain ⟨l, e1, h2⟩ := opt_some h1
  have e2 := asL_some e1
  subst e2
  cases r1 with
  | lst h3 h4 => exact ⟨_, rfl, ⟨_, h3.sq⟩, q _ H1 l n1 g1 x1 (itD_list h3 h4) h2⟩⟩
theorem pid_tup (h : PD X pn H0 .m a ta) : PID X pn H0 tg a (iT ta) := pi_wk (pi_tup h) fun σ H R ⟨e, n, Qd, g, ht, q⟩ => ⟨e, n, _, g, ht, fun v H1 x n1 g1 x1 r1 h1 => by
  obtain ⟨l, e1, h2⟩ := opt_some h1
  have e2 := asTp_some e1
  subst e2
  cases r1 with
  | tup h3 h4 => exact ⟨_, rfl, ⟨_, h3⟩, q _ H1 l n1 g1 x1 (itD_tup h3 h4) h2⟩⟩
def rngD (lo : Int) (k : Nat) : List D := (List.range k).map fun (i : Nat) => D.int (lo + i)
theorem itD_rng {K : PySem.W.Frag} {lo : Int} {k : Nat} {H : Hp} : ItD pn K (Itr lo k) (rngD lo k) H where
  go := fun H' i g hi => by
    have : i < k := by unfold rngD at hi; simpa using hi
    exact this
  yl := fun H' i x H2 g hi y => by
    obtain ⟨rfl, rfl⟩ := y
    have hk : i < k := by unfold rngD at hi; simpa using hi
    refine ⟨.int (lo + i), ?_, .int _, .inl rfl⟩
    unfold rngD
    rw [List.getElem?_map, List.getElem?_range hk]
    rfl
  st := fun H' g => by
    show k ≤ (rngD lo k).length
    unfold rngD
    simp
def iR1 (t : TD) : TID := fun e n Q => t e n fun x m => opt (asI x) fun j => (-1000000 < j ∧ j < 1000000) ∧ Q (rngD 0 j.toNat) m
def iR2 (t u : TD) : TID := fun e n Q => t e n fun x m => u e m fun y k => opt (asI x) fun i => opt (asI y) fun j => (-1000000 < i ∧ i < 1000000 ∧ -1000000 < j ∧ j < 1000000) ∧ Q (rngD i (j - i).toNat) k
theorem pid_r1 {p : Pos} (hg : Gl X "range") (hm : X.mg "range" = none) (h : PD X pn H0 .m a ta) (hs : starEach [a] X.env = [(false, eval a X.env)] := by rfl) : PID X pn H0 tg (.Call (.Name "range" p) [a] [] pos) (iR1 ta) :=
  pi_wk (pi_range1 hg hm (pa_cons h pa_nil hs) hs) fun σ H R ⟨e, n, Qd, g, ht, q⟩ => ⟨e, n, _, g, ht, fun v H1 x n1 g1 x1 r1 h1 => by
    obtain ⟨j, e1, h2, h3⟩ := opt_some h1
    have e2 := asI_some e1
    subst e2
    have e3 : v = .int j := RepX.int (.inl r1)
    subst e3
    exact ⟨j, rfl, by omega, by omega, q _ H1 _ n1 g1 x1 itD_rng h3⟩⟩
theorem pid_r2 {p : Pos} (hg : Gl X "range") (hm : X.mg "range" = none) (h : PD X pn H0 .m a ta) (h' : PD X pn H0 .m b tb) (hs : starEach [a, b] X.env = [(false, eval a X.env), (false, eval b X.env)] := by rfl) (hs2 : starEach [b] X.env = [(false, eval b X.env)] := by rfl) :
    PID X pn H0 tg (.Call (.Name "range" p) [a, b] [] pos) (iR2 ta tb) :=
  pi_wk (pi_range2 hg hm (pa_cons h (pa_cons h' pa_nil hs2) (by rw [hs, hs2])) hs hs2) fun σ H R ⟨e, n, Qd, g, ht, q⟩ => ⟨e, n, _, g, ht, fun v H1 x n1 g1 x1 r1 h1 => ⟨e, n1, _, g1, h1, fun w H2 y n2 g2 x2 r2 h2 => by
    obtain ⟨i, e1, h3⟩ := opt_some h2
    obtain ⟨j, e2, h4, h5⟩ := opt_some h3
    have e3 := asI_some e1
    have e4 := asI_some e2
    subst e3 e4
    have e5 : v = .int i := RepX.int (.inl r1)
    have e6 : w = .int j := RepX.int (.inl r2)
    subst e5 e6
    exact ⟨i, j, rfl, by omega, q _ H2 _ n2 g2 (x1.trans x2) itD_rng h5⟩⟩⟩

/-! ### for -/
def dForL (g : GD) (tb : TSD) : List D → TSD
  | [] => fun F e n => F.nx e n
  | x :: xs => fun F e n => opt (g x e) fun e' => tb { F with nx := dForL g tb xs F, ct := dForL g tb xs F, bk := F.nx } e' n
def dFor (ti : TID) (g : GD) (tb : TSD) : TSD := fun F e n => ti e n fun l m => dForL g tb l F e m
theorem Good.yld {K : PySem.W.Frag} {H0 H H' : Hp} {en : En} {n : Nat} {σ : L2.St} (g : Good pn K H0 en n σ H) (h : H' = H ∨ ∃ p o, H p = none ∧ H' = upd H p o) : Good pn K H0 en n σ H' ∧ Gr H H' := by
  rcases h with rfl | ⟨p, o, hp, rfl⟩
  · exact ⟨g, Gr.refl _⟩
  · exact ⟨g.new hp, Gr.new hp⟩
theorem psd_for {rk : Kd} {body : List Stmt} {ti : TID} {ws : List Nat} {g : GD} {tb : TSD} (hp : PassesOwn (model X.prog X.w) X.A X.env X.xe) (hc : X.calm = true) (hi : PID X pn H0 tg a ti) (hg : PGD X pn H0 ws tg g) (hb : PSDs X pn H0 rk body tb)
    (hs : ∀ x, foldedSetIterable a X.env x = pure x := by intro _; rfl) : PSD X pn H0 rk (.For tg a body [] pos) (dFor ti g tb) :=
  ps_wk (ps_for hp hc hi hg hb hs) fun E σ H ⟨en, n, F, gd, ht, q⟩ => by
    refine ⟨en, n, _, gd, ht, fun J H1 l n1 g1 x1 it h1 => ?_⟩
    have l1 : Leads pn X.K rk H0 H1 F E := q.later (x1.gr gd.pen)
    refine ⟨fun i m σ' H' => i + m = l.length ∧ Gr H1 H' ∧ ∃ e' n', Good pn X.K H0 e' n' σ' H' ∧ dForL g tb (l.drop i) F e' n', ⟨l.length, by omega, Gr.refl _, en, n1, g1, h1⟩, ?_⟩
    rintro i m σ' H' ⟨him, gr, e', n', g', h'⟩
    by_cases hlt : i < l.length
    · refine .inr ⟨it.go H' i gr hlt, fun σ2 H2 => Gr H1 H2 ∧ ∃ e2 n2, Good pn X.K H0 e2 n2 σ2 H2 ∧ dForL g tb (l.drop (i + 1)) F e2 n2, fun σ2 H2 ⟨gr2, z⟩ => ⟨m - 1, by omega, by omega, gr2, z⟩, fun x H2 y => ?_⟩
      obtain ⟨d, hd, rd, hy⟩ := it.yl H' i x H2 gr hlt y
      obtain ⟨g2, gr2⟩ := g'.yld hy
      have hcons : l.drop i = d :: l.drop (i + 1) := by
        rw [List.drop_eq_getElem_cons hlt]
        rw [List.getElem?_eq_getElem hlt] at hd
        rw [Option.some.inj hd]
      rw [hcons] at h'
      obtain ⟨e2, he2, h2⟩ := opt_some h'
      refine ⟨e', n', d, e2, g2, rd, he2, fun σ3 g3 _ => ⟨e2, n', _, g3, h2, ⟨fun σ4 H4 e4 n4 a1 a2 a3 => ⟨(gr.trans gr2).trans a2, e4, n4, a1, a3⟩, q.rt, fun σ4 H4 e4 n4 a1 a2 a3 => l1.nx σ4 H4 e4 n4 a1 ((gr.trans gr2).trans a2) a3, fun σ4 H4 e4 n4 a1 a2 a3 => ⟨(gr.trans gr2).trans a2, e4, n4, a1, a3⟩⟩⟩⟩
    · have ei : i = l.length := by omega
      refine .inl ⟨by rw [ei]; exact it.st H' gr, ?_⟩
      have : l.drop i = [] := List.drop_eq_nil_of_le (by omega)
      rw [this] at h'
      exact l1.nx σ' H' e' n' g' gr h'

/-! ### while -/
def dWhN (c : TTD) (tb : TSD) : Nat → TSD
  | 0 => fun _ _ _ => False
  | k + 1 => fun F e n => c e n fun b m => if b = true then tb { F with nx := dWhN c tb k F, ct := dWhN c tb k F, bk := F.nx } e m else F.nx e m
def dWhile (c : TTD) (tb : TSD) : TSD := fun F e n => ∃ k, dWhN c tb k F e n
theorem psd_while {rk : Kd} {c : Expr} {body : List Stmt} {tc : TTD} {tb : TSD} (hp : PassesOwn (model X.prog X.w) X.A X.env X.xe) (hc : PDT X pn H0 c tc) (hb : PSDs X pn H0 rk body tb) : PSD X pn H0 rk (.While c body [] pos) (dWhile tc tb) :=
  ps_wk (ps_while hp hc hb) fun E σ H ⟨en, n, F, gd, ⟨k, ht⟩, q⟩ => by
    refine ⟨fun m σ' H' => Gr H H' ∧ ∃ e' n', Good pn X.K H0 e' n' σ' H' ∧ dWhN tc tb m F e' n', ⟨k, Gr.refl _, en, n, gd, ht⟩, ?_⟩
    rintro m σ' H' ⟨gr, e', n', g', h'⟩
    cases m with
    | zero => exact h'.elim
    | succ m =>
      refine ⟨e', n', _, g', h', fun b H2 n2 g2 x2 h2 => ?_⟩
      have gr2 := x2.gr g'.pen
      cases b with
      | true =>
        rw [if_pos rfl] at h2
        refine iteT ⟨fun σ3 H3 => Gr H H3 ∧ ∃ e3 n3, Good pn X.K H0 e3 n3 σ3 H3 ∧ dWhN tc tb m F e3 n3, fun σ3 H3 z => ⟨m, Nat.lt_succ_self m, z⟩, e', n2, _, g2, h2, ?_⟩
        exact ⟨fun σ4 H4 e4 n4 a1 a2 a3 => ⟨(gr.trans gr2).trans a2, e4, n4, a1, a3⟩, q.rt, fun σ4 H4 e4 n4 a1 a2 a3 => q.nx σ4 H4 e4 n4 a1 ((gr.trans gr2).trans a2) a3, fun σ4 H4 e4 n4 a1 a2 a3 => ⟨(gr.trans gr2).trans a2, e4, n4, a1, a3⟩⟩
      | false =>
        rw [if_neg Bool.false_ne_true] at h2
        exact iteF (q.nx σ' H2 e' n2 g2 (gr.trans gr2) h2)
end
end VD

set_option Elab.async false
set_option linter.all false
set_option maxRecDepth 100000
set_option maxHeartbeats 4000000
namespace VD
open PySem L2

theorem Good.unset {pn : Pw} {K : PySem.W.Frag} {H0 H : Hp} {e : En} {n : Nat} {σ : L2.St} (g : Good pn K H0 e n σ H) (i : Nat) : Good pn K H0 (e.set i none) n (σ.set i none) H := by
  have cut : ∀ {j : Nat} {z : S}, (e.set i none)[j]? = some (some z) → i ≠ j ∧ e[j]? = some (some z) := fun {j z} h => by
    by_cases c : i = j
    · subst c
      by_cases hl : i < e.length
      · rw [List.getElem?_set_self hl] at h
        cases h
      · rw [List.getElem?_eq_none (by rw [List.length_set]; omega)] at h
        cases h
    · rw [List.getElem?_set_ne c] at h
      exact ⟨c, h⟩
  refine ⟨by rw [List.length_set, List.length_set]; exact g.len, fun j y h => ?_, fun j l h => ?_, fun j k l m a hjk h1 h2 h3 => ?_, g.stay, g.pen⟩
  · obtain ⟨c, h⟩ := cut h
    rw [List.getElem?_set_ne c]
    exact g.dat j y h
  · obtain ⟨c, h⟩ := cut h
    rw [List.getElem?_set_ne c]
    exact g.own j l h
  · obtain ⟨c1, h1⟩ := cut h1
    obtain ⟨c2, h2⟩ := cut h2
    rw [List.getElem?_set_ne c1] at h3
    rw [List.getElem?_set_ne c2]
    exact g.ne j k l m a hjk h1 h2 h3
def wipeE (e : En) : List Nat → En
  | [] => e
  | v :: vs => (wipeE e vs).set v none
theorem Good.wiped {pn : Pw} {K : PySem.W.Frag} {H0 H : Hp} {e : En} {n : Nat} {σ : L2.St} (g : Good pn K H0 e n σ H) : ∀ vs : List Nat, Good pn K H0 (wipeE e vs) n (wipe σ vs) H
  | [] => g
  | v :: vs => (Good.wiped g vs).unset v
theorem wipe_get (σ : L2.St) : ∀ (vs : List Nat) (j : Nat), (wipe σ vs)[j]? = if j ∈ vs ∧ j < σ.length then some none else σ[j]?
  | [], j => by
    rw [if_neg (by simp)]
    rfl
  | v :: vs, j => by
    show ((wipe σ vs).set v none)[j]? = _
    by_cases c : v = j
    · subst c
      by_cases hl : v < σ.length
      · rw [List.getElem?_set_self (by rw [wipe_length]; exact hl), if_pos ⟨List.mem_cons_self, hl⟩]
      · rw [List.getElem?_eq_none (by rw [List.length_set, wipe_length]; omega), if_neg (fun z => hl z.2), List.getElem?_eq_none (by omega)]
    · rw [List.getElem?_set_ne c, wipe_get σ vs j]
      by_cases d : j ∈ vs ∧ j < σ.length
      · rw [if_pos d, if_pos ⟨List.mem_cons_of_mem _ d.1, d.2⟩]
      · rw [if_neg d, if_neg]
        rintro ⟨z, z2⟩
        rcases List.mem_cons.mp z with z | z
        · exact c z.symm
        · exact d ⟨z, z2⟩
theorem wipe_alike {σ σ' : L2.St} {vs ws : List Nat} (hl : σ'.length = σ.length) (hw : ∀ j ∈ ws, j ∈ vs) (h : ∀ j, j ∉ ws → σ'[j]? = σ[j]?) : wipe σ' vs = wipe σ vs := by
  refine List.ext_getElem? fun j => ?_
  rw [wipe_get, wipe_get, hl]
  by_cases c : j ∈ vs ∧ j < σ.length
  · rw [if_pos c, if_pos c]
  · rw [if_neg c, if_neg c]
    by_cases d : j ∈ ws
    · have : ¬ j < σ.length := fun z => c ⟨hw j d, z⟩
      rw [List.getElem?_eq_none (by omega), List.getElem?_eq_none (by omega)]
    · exact h j d
theorem wipe_wipe (σ : L2.St) (vs : List Nat) : wipe (wipe σ vs) vs = wipe σ vs := by
  refine List.ext_getElem? fun j => ?_
  rw [wipe_get, wipe_length, wipe_get]
  by_cases c : j ∈ vs ∧ j < σ.length
  · rw [if_pos c, if_pos c]
  · rw [if_neg c]

/-! ### [elt for target in iter if test] -/
def dLcL (g : GD) (c : TTD) (te : TD) (e0 : En) : List D → List D → Nat → DK → Prop
  | [], acc, m, Q => Q (.lst acc) m
  | x :: xs, acc, m, Q => opt (g x e0) fun e' => c e' m fun b m1 => if b = true then te e' m1 fun y m2 => dLcL g c te e0 xs (acc ++ [y]) m2 Q else dLcL g c te e0 xs acc m1 Q
def dLc (ti : TID) (vs : List Nat) (g : GD) (c : TTD) (te : TD) : TD := fun e n Q => ti e n fun l m => l.length ≤ 100000 ∧ dLcL g c te (wipeE e vs) l [] m Q
def dYes : TTD := fun _ n Q => Q true n
abbrev PTDs (X : Cx) (pn : Pw) (H0 : Hp) (ifs : List Expr) (t : TTD) : Prop := PTs X ifs (upT pn H0 X.K t)
theorem pts_wk {X : Cx} {ifs : List Expr} {t t' : TT} (h : PTs X ifs t) (w : ∀ σ H Q, t' σ H Q → t σ H Q) : PTs X ifs t' := ⟨fun pins s σ H Q I q => h.run pins s σ H Q I (w σ H Q q)⟩
theorem ptd_no {X : Cx} {pn : Pw} {H0 : Hp} : PTDs X pn H0 [] dYes := pts_wk pts_nil fun σ H Q ⟨e, n, Qd, g, ht, q⟩ => q true H n g (Xt.refl _ _) ht
theorem ptd_one {X : Cx} {pn : Pw} {H0 : Hp} {c : Expr} {t : TTD} (h : PDT X pn H0 c t) : PTDs X pn H0 [c] t := pts_one h
section
variable {X : Cx} {pn : Pw} {H0 : Hp} {elt tg iter : Expr} {ifs : List Expr} {scope : Scope} {own : List (Str × Nat)} {pos : Pos} {ti : TID} {g : GD} {c : TTD} {te : TD} {ws : List Nat}
/-- the new list grows beside the slots -/
theorem Good.side {K : PySem.W.Frag} {H0 H : Hp} {e : En} {n : Nat} {σ : L2.St} {d : Addr} {vs us : List V} (g : Good pn K H0 e n σ H) (h : H d = some (.lst vs)) (h0 : H0 d = none) (hp : ¬ Own pn d)
    (un : ∀ (j : Nat) m, e[j]? = some (some (.own m)) → σ[j]? ≠ some (some (.ref d))) : Good pn K H0 e n σ (upd H d (.lst us)) := by
  have gr : Gr H (upd H d (.lst us)) := Gr.mut h fun z => z
  refine ⟨g.len, fun j y q => ?_, fun j l q => ?_, g.ne, fun b w z1 z2 => ?_, g.pen.xt gr fun b hb => upd_ne fun z => hp (by rw [← z]; exact hb)⟩
  · obtain ⟨v, h1, h2⟩ := g.dat j y q
    exact ⟨v, h1, h2.gr gr⟩
  · obtain ⟨a, ws, h1, h2, h3, h4, h5⟩ := g.own j l q
    have ne : a ≠ d := by
      rintro rfl
      exact un j l q h1
    exact ⟨a, ws, h1, by rw [upd_ne ne]; exact h2, h3.gr gr, h4, h5⟩
  · have ne : b ≠ d := by
      rintro rfl
      rw [h0] at z1
      cases z1
    rw [upd_ne ne]
    exact g.stay b w z1 z2
theorem up_lc {K : PySem.W.Frag} (hw : ∀ j ∈ ws, j ∈ own.map (·.2)) {σ : L2.St} {H : Hp} {Q : VK} (h : up pn H0 K .f (dLc ti (own.map (·.2)) g c te) σ H Q) :
    tLc (upI pn H0 K ti) (upG pn H0 K ws g) (upT pn H0 K c) (up pn H0 K .m te) (own.map (·.2)) σ H Q := by
  obtain ⟨e, n, Qd, gd, ht, q⟩ := h
  refine ⟨e, n, _, gd, ht, fun J H1 l n1 g1 x1 it h1 D hD => ?_⟩
  obtain ⟨hlen, h1⟩ := h1
  have D0 : H0 D = none := good_back g1 hD
  have Dp : ¬ Own pn D := g1.pen.ne hD
  have Dun := un_fresh g1 hD
  have DH : H D = none := fresh_back x1 g1.pen hD
  refine ⟨fun i m H' => i + m = l.length ∧ Gr H1 H' ∧ Xt pn H H' ∧ ∃ n' acc vs, Good pn K H0 e n' σ H' ∧ H' D = some (.lst vs) ∧ Reps pn K H' vs acc ∧ acc.length ≤ i ∧ dLcL g c te (wipeE e (own.map (·.2))) (l.drop i) acc n' Qd,
    ⟨l.length, by omega, Gr.new hD, x1.trans (Xt.new hD), n1, [], [], g1.new hD, upd_same, .nil, Nat.le_refl _, h1⟩, ?_⟩
  rintro i m H' ⟨him, gr, xt, n', acc, vs, g', hd, ra, hacc, h'⟩
  by_cases hlt : i < l.length
  · refine .inr ⟨it.go H' i gr hlt, fun H2 => Gr H1 H2 ∧ Xt pn H H2 ∧ ∃ n2 acc2 vs2, Good pn K H0 e n2 σ H2 ∧ H2 D = some (.lst vs2) ∧ Reps pn K H2 vs2 acc2 ∧ acc2.length ≤ i + 1 ∧ dLcL g c te (wipeE e (own.map (·.2))) (l.drop (i + 1)) acc2 n2 Qd,
      fun H2 ⟨a1, a2, n2, acc2, vs2, a3, a4, a5, a6, a7⟩ => ⟨m - 1, by omega, by omega, a1, a2, n2, acc2, vs2, a3, a4, a5, a6, a7⟩, fun x H2 y => ?_⟩
    obtain ⟨d, hdd, rd, hy⟩ := it.yl H' i x H2 gr hlt y
    have hcons : l.drop i = d :: l.drop (i + 1) := by
      rw [List.drop_eq_getElem_cons hlt]
      rw [List.getElem?_eq_getElem hlt] at hdd
      rw [Option.some.inj hdd]
    rw [hcons] at h'
    obtain ⟨e2, he2, h2⟩ := opt_some h'
    obtain ⟨g2, gr2⟩ := g'.yld hy
    have x2 : Xt pn H' H2 := by
      rcases hy with rfl | ⟨p, o, hp, rfl⟩
      · exact Xt.refl _ _
      · exact Xt.new hp
    refine ⟨_, n', d, e2, g2.wiped _, rd, he2, fun σ3 g3 k3 => ⟨?_, e2, n', _, g3, h2, fun b H3 n3 g4 x3 h3 => ?_⟩⟩
    · rw [wipe_alike (σ := wipe σ (own.map (·.2))) (vs := own.map (·.2)) (ws := ws) k3.1 hw k3.2, wipe_wipe]
    · have hd2 := x2 _ _ hd Dp
      have hd3 := x3 _ _ hd2 Dp
      have gr3 := x3.gr g3.pen
      have g5 := g2.xt x3 g4.pen
      cases b with
      | false =>
        rw [if_neg Bool.false_ne_true] at h3
        exact iteF ⟨(gr.trans gr2).trans gr3, (xt.trans x2).trans x3, n3, acc, vs, g5, hd3, ra.gr (gr2.trans gr3), by omega, h3⟩
      | true =>
        rw [if_pos rfl] at h3
        refine iteT ⟨e2, n3, _, g4, h3, fun y H4 yd n4 g6 x4 r4 h4 => ?_⟩
        have gr4 := x4.gr g4.pen
        have hd4 := x4 _ _ hd3 Dp
        have ra4 := ra.gr ((gr2.trans gr3).trans gr4)
        have g7 := g5.xt x4 g6.pen
        have grm : Gr H4 (upd H4 D (.lst (vs ++ [y]))) := Gr.mut hd4 fun z => z
        refine ⟨vs, hd4, ?_, (((gr.trans gr2).trans gr3).trans gr4).trans grm, fun a o ha hn => ?_, n4, acc ++ [yd], vs ++ [y], g7.side hd4 D0 Dp Dun, upd_same, (ra4.append (.cons r4 .nil)).gr grm, ?_, h4⟩
        · rw [ra4.length]
          exact Nat.lt_of_lt_of_le (show acc.length < 100001 by omega) (by decide)
        · have ne : a ≠ D := ne_of_none ha DH
          rw [upd_ne ne]
          exact (((xt.trans x2).trans x3).trans x4) a o ha hn
        · rw [List.length_append]
          show acc.length + 1 ≤ i + 1
          omega
  · have ei : i = l.length := by omega
    refine .inl ⟨by rw [ei]; exact it.st H' gr, ?_⟩
    have : l.drop i = [] := List.drop_eq_nil_of_le (by omega)
    rw [this] at h'
    exact q _ H' _ n' g' xt ⟨D, vs, acc, rfl, rfl, DH, hd, ra⟩ h'
theorem pd_lc (hc : X.calm = true) (hN : X.N.Nodup) (hi : PID X pn H0 tg iter ti) (ok : BlkOk X.N X.env.scope scope own) (hw : ∀ j ∈ ws, j ∈ own.map (·.2))
    (hg : ∀ (s : Shared) (H : Hp) (C : Addr) (cl : List (Str × Addr)) (fp : List Addr), PGD (X.blk s H scope (compEnvC scope cl C X.env) fp) pn H0 ws tg g) (ht : ∀ (s : Shared) (H : Hp) (C : Addr) (cl : List (Str × Addr)) (fp : List Addr), PTDs (X.blk s H scope (compEnvC scope cl C X.env) fp) pn H0 ifs c)
    (he : ∀ (s : Shared) (H : Hp) (C : Addr) (cl : List (Str × Addr)) (fp : List Addr), PD (X.blk s H scope (compEnvC scope cl C X.env) fp) pn H0 .m elt te) (hs : ∀ x, foldedSetIterable iter X.env x = pure x := by intro _; rfl) :
    PD X pn H0 .f (.ListComp elt [⟨tg, iter, ifs, 0⟩] scope pos) (dLc ti (own.map (·.2)) g c te) := pe_wk (pe_lc hc hN hi ok hg ht he hs) fun _ _ _ h => up_lc hw h
/-- name = [..] on one line -/
theorem psd_setLc {rk : Kd} {i : Nat} {y : Str} {py spos : Pos} (hc : X.calm = true) (hN : X.N.Nodup) (hsw : swapsWith (.ListComp elt [⟨tg, iter, ifs, 0⟩] scope pos) (some (.Name y py)) spos.line X.env = pure true) (hi : PID X pn H0 tg iter ti) (ok : BlkOk X.N X.env.scope scope own) (hw : ∀ j ∈ ws, j ∈ own.map (·.2))
    (hg : ∀ (s : Shared) (H : Hp) (C : Addr) (cl : List (Str × Addr)) (fp : List Addr), PGD (X.blk s H scope (compEnvC scope cl C X.env) fp) pn H0 ws tg g) (ht : ∀ (s : Shared) (H : Hp) (C : Addr) (cl : List (Str × Addr)) (fp : List Addr), PTDs (X.blk s H scope (compEnvC scope cl C X.env) fp) pn H0 ifs c)
    (he : ∀ (s : Shared) (H : Hp) (C : Addr) (cl : List (Str × Addr)) (fp : List Addr), PD (X.blk s H scope (compEnvC scope cl C X.env) fp) pn H0 .m elt te) (hy : X.N[i]? = some y := by rfl) (hyl : X.env.scope.names.lookup y = some .local := by rfl) (hs : ∀ x, foldedSetIterable iter X.env x = pure x := by intro _; rfl) :
    PSD X pn H0 rk (.Assign [.Name y py] (.ListComp elt [⟨tg, iter, ifs, 0⟩] scope pos) spos) (dSetO i (dLc ti (own.map (·.2)) g c te)) :=
  ps_wk (ps_setLc hc hN hy hyl hsw hi ok hg ht he hs) fun E σ H ⟨en, n, F, gd, hd, q⟩ => up_lc hw ⟨en, n, _, gd, hd, fun v H' y n' g' x' r' h' => by
    obtain ⟨l, e0, h2⟩ := opt_some h'
    have e1 := asL_some e0
    subst e1
    obtain ⟨p, vs, l', rfl, e2, e3, e4, e5⟩ := r'
    cases e2
    exact q.nx _ H' _ n' (g'.setOwn e4 e5 (good_back gd e3) (gd.pen.ne e3) fun j m _ hj => un_fresh gd e3 j m hj) (x'.gr gd.pen) h2⟩
end
end VD

set_option Elab.async false
set_option linter.all false
set_option maxRecDepth 100000
set_option maxHeartbeats 4000000
namespace VD
open PySem L2

def startE (k : Nat) (l : List D) : En := l.map (fun x => some (S.d x)) ++ List.replicate (k - l.length) none
/-- a def's meaning over data: its body's -/
def bodyTF (k : Nat) (t : EK → TSD) : TF := fun l n Q E => t E { nx := fun _ m => Q .non m, rt := Q } (startE k l) n
theorem good_start {pn : Pw} {K : PySem.W.Frag} {H : Hp} {n : Nat} {N : List Str} {vs : List V} {l : List D} (r : Reps pn K H vs l) (p : PenOk pn K H n) (h : l.length ≤ N.length) : Good pn K H (startE N.length l) n (L2.start N vs) H := by
  have hl := r.length
  have at1 : ∀ (i : Nat) x, (startE N.length l)[i]? = some (some x) → i < l.length ∧ ∃ y, l[i]? = some y ∧ x = .d y := fun i x e => by
    unfold startE at e
    by_cases hi : i < l.length
    · rw [List.getElem?_append_left (by simpa using hi), List.getElem?_map] at e
      cases q : l[i]? with
      | none =>
        rw [q] at e
        cases e
      | some y =>
        rw [q] at e
        cases e
        exact ⟨hi, y, rfl, rfl⟩
    · rw [List.getElem?_append_right (by simpa using hi), List.getElem?_replicate] at e
      split at e <;> cases e
  refine ⟨?_, fun i x e => ?_, fun i m e => ?_, fun i j m m' a _ e => ?_, Xt.refl _ _, p⟩
  · unfold startE L2.start
    simp only [List.length_append, List.length_map, List.length_replicate, hl]
  · obtain ⟨hi, y, h1, h2⟩ := at1 i _ e
    cases h2
    obtain ⟨v, h3, h4⟩ := r.get h1
    refine ⟨v, ?_, h4⟩
    unfold L2.start
    rw [List.getElem?_append_left (by simp only [List.length_map]; omega), List.getElem?_map, h3]
    rfl
  · obtain ⟨_, y, _, h2⟩ := at1 i _ e
    cases h2
  · obtain ⟨_, y, _, h2⟩ := at1 i _ e
    cases h2

section
variable {P : Program} {w : World} {K : PySem.W.Frag} {mg : Str → Option Value} {base : Heap} {CX : CXT} {k : Nat} {f : Addr} {fd : FuncData} {x ql : Str} {st : Stmt} {N ps : List Str} {pn : Pw} {rk : Kd}
theorem ok_m (F : Fun K x ql st f fd) (S : FnScope N ps (defScope st)) (t : EK → TSD)
    (hb : ∀ (cdv : Value) (A : Around) (outer : List Env) (s : Shared) (H : Hp) (E : XK) (Ed : EK), Room k (cxOf CX P w K mg base N ql (defScope st) f cdv A outer s H E).A → (cxOf CX P w K mg base N ql (defScope st) f cdv A outer s H E).A.guards = some [] → ELead pn K H Ed E →
      PSDs (cxOf CX P w K mg base N ql (defScope st) f cdv A outer s H E) pn H .m (defBody st) (t Ed)) :
    FnG P w K mg base CX (k + 1) f fd ps (spD ps.length pn K .m (bodyTF N.length t)) := by
  have hpl : ps.length ≤ N.length := by have := congrArg List.length S.pre; rw [List.length_take] at this; omega
  refine Fun.okG F S (spD_len rfl) fun cdv A outer s H vs Q E hr hg h => ?_
  obtain ⟨l, n, Qd, Ed, r, p, hl, ht, hq, he⟩ := h
  refine ⟨_, hb cdv A outer s H E Ed hr hg he, startE N.length l, n, _, good_start r p (by rw [hl]; exact hpl), ht, ?_⟩
  exact ⟨fun σ' H' e' n' g' _ q' => hq .non H' .non n' g'.stay g'.pen .non q', fun v σ' H' y n' e' g' r' q' => hq v H' y n' g'.stay g'.pen r' q', fun _ _ _ _ _ _ z => z.elim, fun _ _ _ _ _ _ z => z.elim⟩
/-- .. that answers a new list, and never falls off its end -/
def bodyTFf (k : Nat) (t : EK → TSD) : TF := fun l n Q E => t E { nx := fun _ _ => False, rt := Q } (startE k l) n
theorem ok_f (F : Fun K x ql st f fd) (S : FnScope N ps (defScope st)) (t : EK → TSD)
    (hb : ∀ (cdv : Value) (A : Around) (outer : List Env) (s : Shared) (H : Hp) (E : XK) (Ed : EK), Room k (cxOf CX P w K mg base N ql (defScope st) f cdv A outer s H E).A → (cxOf CX P w K mg base N ql (defScope st) f cdv A outer s H E).A.guards = some [] → ELead pn K H Ed E →
      PSDs (cxOf CX P w K mg base N ql (defScope st) f cdv A outer s H E) pn H .f (defBody st) (t Ed)) :
    FnG P w K mg base CX (k + 1) f fd ps (spD ps.length pn K .f (bodyTFf N.length t)) := by
  have hpl : ps.length ≤ N.length := by have := congrArg List.length S.pre; rw [List.length_take] at this; omega
  refine Fun.okG F S (spD_len rfl) fun cdv A outer s H vs Q E hr hg h => ?_
  obtain ⟨l, n, Qd, Ed, r, p, hl, ht, hq, he⟩ := h
  refine ⟨_, hb cdv A outer s H E Ed hr hg he, startE N.length l, n, _, good_start r p (by rw [hl]; exact hpl), ht, ?_⟩
  exact ⟨fun σ' H' e' n' g' _ q' => q'.elim, fun v σ' H' y n' e' g' r' q' => hq v H' y n' g'.stay g'.pen r' q', fun _ _ _ _ _ _ z => z.elim, fun _ _ _ _ _ _ z => z.elim⟩
end
/-- raise X('..'), X without an __init__ of its own -/
theorem psd_raise {X : Cx} {pn : Pw} {H0 : Hp} {rk : Kd} {E : XK} {Ed : EK} {C : Addr} {e : Expr} {pos : Pos} (hc : X.calm = true) (tk : Takes X fun cls d _ H => E cls d H) (hE : ELead pn X.K H0 Ed E) (pm : PMk X e (fun _ H Q => Q (.ref C) none H)) :
    PSD X pn H0 rk (.Raise (some e) none pos) (dRaise C Ed) := ps_wk (ps_raise hc tk pm) fun D σ H ⟨en, n, F, g, ht, q⟩ => hE C "" [] n none H g.stay g.pen (.inl ⟨rfl, rfl, rfl⟩) ht
end VD

set_option Elab.async false
set_option linter.all false
set_option maxRecDepth 100000
set_option maxHeartbeats 4000000
namespace VD
open PySem L2

/-! ### enumerate over a tuple -/
section
open Sem (wp)
open AutoSeq1 (wpAny_loadPart')
theorem enumT_new (l : Addr) (items : Array Value) (n : Nat) (dct : Option Addr) (sl : Array (Option Value)) :
    Meets (Builtin.«enumerate.__new__» ⟨[.type "enumerate", .ref l], []⟩) (fun _ R s => s.heap.get? l = some { cls := .type "tuple", dict := dct, data := .seq items n, slots := sl } ∧
      R (.ok (.ret (.ref (s.heap.push { cls := .type "tuple_iterator", data := .fields #[.ref l, .int 0 0] }).objs.size)))
        { s with heap := (s.heap.push { cls := .type "tuple_iterator", data := .fields #[.ref l, .int 0 0] }).push { cls := .type "enumerate", data := .fields #[.none, .bool false, .ref s.heap.objs.size, rawInt 0, .none, .none] } }) :=
  .of_wp fun prog w A R s h => by
    obtain ⟨hp, gs, dr, tk, os⟩ := s
    obtain ⟨hl, h⟩ := h
    have sub := sub_enumerate
    have isT : Heap.IsTuple (Shared.heap ⟨hp, gs, dr, tk, os⟩) l items := ⟨_, hl, rfl, n, rfl⟩
    wp_walk using wpAny_loadPart' hl
    refine wpAny_stack_any fun st => wpAny_pure ?_
    split
    · rename_i c _ _ _ _ _
      cases (c == Value.type "enumerate")
      · wp_walk using wpAny_loadPart' hl, wpAny_pyIter_tuple isT
        exact ⟨_, rfl, h⟩
      · wp_walk using wpAny_loadPart' hl, wpAny_pyIter_tuple isT
        exact ⟨_, rfl, h⟩
    · wp_walk using wpAny_loadPart' hl, wpAny_pyIter_tuple isT
      exact ⟨_, rfl, h⟩
theorem enumT_call {prog : Program} {w : World} {A : Around} {E : Value → Shared → Prop} {s : Shared} {l : Addr} {items : Array Value} {Q : Value → Shared → Prop} (hL : s.heap.IsTuple l items)
    (h : ∀ h', IsEnum h' (s.heap.objs.size + 1) s.heap.objs.size 0 .none → h'.IsTupleIter s.heap.objs.size l 0 → (∀ b o, s.heap.get? b = some o → h'.get? b = some o) → Q (.ref (s.heap.objs.size + 1)) { s with heap := h' }) :
    wpAny (model prog w) A (call (.type "enumerate") [.ref l]) Q E s := by
  obtain ⟨⟨c, dct, dt, sl⟩, hl, hc, n, hd⟩ := hL
  have e1 : c = .type "tuple" := hc
  have e2 : dt = .seq items n := hd
  subst e1 e2
  refine callType_new F.called_enumerate (by decide) (F.typeCall_enumerate_1 _) (F.newCall_enumerate_1 _) (fun obj => F.args_object_init_2 obj _) F.entry_enumerate_new (enumT_new l items n dct sl) ⟨hl, ?_⟩
  have sz : (s.heap.push { cls := .type "tuple_iterator", data := .fields #[.ref l, .int 0 0] }).objs.size = s.heap.objs.size + 1 := Heap.size_push ..
  show _ ∧ _
  rw [sz]
  have en : IsEnum ((s.heap.push { cls := .type "tuple_iterator", data := .fields #[.ref l, .int 0 0] }).push { cls := .type "enumerate", data := .fields #[.none, .bool false, .ref s.heap.objs.size, rawInt 0, .none, .none] }) (s.heap.objs.size + 1) s.heap.objs.size 0 .none := by
    have z := Heap.get?_push_size (s.heap.push { cls := .type "tuple_iterator", data := .fields #[.ref l, .int 0 0] }) (o := { cls := .type "enumerate", data := .fields #[.none, .bool false, .ref s.heap.objs.size, rawInt 0, .none, .none] }) rfl
    rw [sz] at z
    exact z
  exact ⟨⟨_, en, rfl⟩, h _ en ⟨_, Heap.get?_push_of_some _ (Heap.get?_push_size _ rfl), rfl, rfl⟩ fun b o x => Heap.get?_push_of_some _ (Heap.get?_push_of_some _ x)⟩
end
def IteT (K : PySem.W.Frag) (a : Addr) : It :=
  ⟨fun i H => ∃ (xs : List V) (x : V), SqT K H a xs ∧ xs[i]? = some x, fun i H v H' => ∃ T x, v = .ref T ∧ H T = none ∧ H' = upd H T (.tup [.int (i : Nat), x]) ∧ ∀ xs, SqT K H a xs → xs[i]? = some x, fun i H => ∃ xs : List V, SqT K H a xs ∧ xs.length = i⟩
theorem turn_enumT {P : Program} {w : World} {K : PySem.W.Frag} {elts : List Expr} {kk : Nat} {tpos : Pos} (a e it : Addr) :
    Turn P w K (.Tuple elts kk tpos) (IteT K a) [e, it] e (fun i h => (∃ old, IsEnum h e it ((i : Nat) : Int) old) ∧ h.IsTupleIter it a i ∧ e ≠ it) where
  mem := by simp
  obj := fun i h ⟨⟨old, he⟩, ⟨o, ho, hc, hd⟩, _⟩ b hb => by
    have e' : b = e ∨ b = it := by simpa using hb
    rcases e' with z | z
    · rw [z]; exact ⟨_, he, fun v q => nomatch q⟩
    · rw [z]; exact ⟨o, ho, fun v q => by rw [hd] at q; cases q⟩
  keep := fun i h h' ⟨⟨old, he⟩, hi, hne⟩ k => ⟨⟨old, k e (by simp) _ he⟩, hi.at fun o q => k it (by simp) o q, hne⟩
  item := by
    intro X hP hw hK hc i pins s σ H E I hf st hg
    subst hP hw hK
    obtain ⟨⟨old, he⟩, hit, hne⟩ := st
    obtain ⟨xs, x, hq, hx⟩ := hg
    obtain ⟨its, rv, p, hz⟩ := I.tuple hq
    obtain ⟨u, hu, ru⟩ := rv.get hx
    have pT : s.heap.IsTuple a its.toArray := p
    have hel : e < s.heap.objs.size := Heap.lt_size he
    have hil : it < s.heap.objs.size := by obtain ⟨_, q, _⟩ := hit; exact Heap.lt_size q
    have nai : a ≠ it := by
      rintro rfl
      obtain ⟨o1, h1, h2, _⟩ := pT
      obtain ⟨o2, h3, h4, _⟩ := hit
      rw [h1] at h3
      cases h3
      rw [h2] at h4
      exact absurd (Value.type.inj h4) (by decide)
    have nae : a ≠ e := by
      rintro rfl
      obtain ⟨o1, h1, h2, _⟩ := pT
      have h3 : s.heap.get? a = _ := he
      rw [h1] at h3
      cases h3
      exact absurd (Value.type.inj h2) (by decide)
    have lt : i < its.toArray.size := by
      have := (List.getElem?_eq_some_iff.mp hu).1
      simpa using this
    refine wpAny_pyNext_enum_itemD (Draws.tuple (A := X.A.in1) (I.ok.hd hc) it a nai its.toArray) he ⟨hit, pT⟩ lt hne (by simp [hne, Ne.symm nae]) fun y h' tk hy ho hst hT hsz hk => ?_
    have hy' : y = u := by
      have z : its.toArray[i]? = some u := by simpa using hu
      rw [hy] at z
      exact Option.some.inj z
    subst hy'
    refine ⟨_, rfl, wpAny_letOwnedTupleGo_enum (s := { s with heap := h', toks := tk + 1 }) ho fun h'' he' sb => ?_⟩
    have hT2 : h''.get? s.heap.objs.size = some { cls := .type "tuple", data := .seq #[.int i tk, y] } := (sb.2 _ (Nat.ne_of_gt hel)).trans hT
    have new : ObjOk X.prog X.w (upd H s.heap.objs.size (.tup [.int (i : Nat), x])) h'' s.heap.objs.size (.tup [.int (i : Nat), x]) :=
      ⟨by show 2 ≤ sizeLine; decide, [.int i tk, y], .cons ⟨_, rfl⟩ (.cons ru .nil), ⟨_, hT2, rfl, _, rfl⟩⟩
    have I1 : Inv X pins σ (upd H s.heap.objs.size (.tup [.int (i : Nat), x])) { s with heap := h'', toks := tk + 1 } :=
      I.turnedNew (ch := [e, it]) (fun b ob hb q => (sb.2 b (fun z => hb (by simp [z]))).trans (hk b ob (fun z => hb (by simp [z])) (fun z => hb (by simp [z])) q)) hf (Nat.le_refl _) new
    refine ⟨.ref s.heap.objs.size, _, I1, rfl, ⟨_, x, rfl, I.hok.fresh (Nat.le_refl _), rfl, fun ys hy => by rw [I.tuple_inj hy hq]; exact hx⟩, ⟨⟨y, ?_⟩, hst.1.at fun o q => (sb.2 it (Ne.symm hne)).trans q, hne⟩, fun b hb => ?_⟩
    · have e1 : ((i + 1 : Nat) : Int) = (i : Int) + 1 := by omega
      rw [e1]; exact he'
    · have hb' : b < s.heap.objs.size := by
        have e' : b = e ∨ b = it := by simpa using hb
        rcases e' with z | z
        · rw [z]; exact hel
        · rw [z]; exact hil
      rw [upd_ne (Nat.ne_of_lt hb')]
      exact (hf b hb).1
  done := by
    intro X hP hw hK hc i pins s σ H E I hf st hg
    subst hP hw hK
    obtain ⟨⟨old, he⟩, hit, hne⟩ := st
    obtain ⟨xs, hq, hx⟩ := hg
    obtain ⟨its, rv, p, hz⟩ := I.tuple hq
    have pT : s.heap.IsTuple a its.toArray := p
    have nai : a ≠ it := by
      rintro rfl
      obtain ⟨o1, h1, h2, _⟩ := pT
      obtain ⟨o2, h3, h4, _⟩ := hit
      rw [h1] at h3
      cases h3
      rw [h2] at h4
      exact absurd (Value.type.inj h4) (by decide)
    obtain ⟨f0, f1, f2, f3, f4, f5⟩ := hf it (by simp)
    have hl : i = its.toArray.size := by rw [List.size_toArray, ← rv.length]; exact hx.symm
    subst hl
    exact wpAny_pyNext_enum_endD (Draws.tuple (A := X.A.in1) (I.ok.hd hc) it a nai its.toArray) he ⟨hit, pT⟩ fun h' eb => ⟨rfl, I.turned (t' := s.toks) (fun b o hb q => eb b o hb q) f0 f1 f3 f4 f5⟩
  self := fun A i s Q E ⟨⟨_, he⟩, _⟩ h => wpAny_pyIter_enum he h
def iEnumT (K : PySem.W.Frag) (ta : TA) : TI := fun σ H R => ta σ H fun vs H1 => ∃ a xs, vs = [.ref a] ∧ SqT K H1 a xs ∧ R (IteT K a) H1
theorem pi_enumT {X : Cx} {e : Expr} {ta : TA} {p pos tpos : Pos} {elts : List Expr} {kk : Nat} (hg : Gl X "enumerate") (hm : X.mg "enumerate" = none) (ha : PA X [e] ta) (hs : starEach [e] X.env = [(false, eval e X.env)] := by rfl) :
    PI X (.Tuple elts kk tpos) (.Call (.Name "enumerate" p) [e] [] pos) (iEnumT X.K ta) := by
  refine ⟨fun pins s σ H R I h => ?_⟩
  refine PyProof.Rows.Call_ (ld_blt I hg hm PyProof.Rows.boot_enumerate (PyProof.Rows.callWith_type1 (thn (ha.run pos pins s σ H _ I h) fun us s1 ⟨vs, H1, I1, r1, a, xs, ex, hq, q⟩ => ?_) hs rfl))
  subst ex
  cases r1 with
  | cons r rr =>
    cases rr
    cases r
    obtain ⟨its, rv, p', hz⟩ := I1.tuple hq
    refine enumT_call (show s1.heap.IsTuple a its.toArray from p') fun h' en hit hk => wpAny_pyIter_enum en ?_
    have I2 : Inv X pins σ H1 { s1 with heap := h' } := I1.kept (t' := s1.toks) hk
    refine ⟨s1.heap.objs.size + 1, [s1.heap.objs.size + 1, s1.heap.objs.size], _, _, H1, rfl, I2, turn_enumT a (s1.heap.objs.size + 1) s1.heap.objs.size, ⟨⟨.none, en⟩, hit, Nat.succ_ne_self _⟩, fun b hb => ?_, q⟩
    have e' : b = s1.heap.objs.size + 1 ∨ b = s1.heap.objs.size := by simpa using hb
    have hle : s1.heap.objs.size ≤ b := by
      rcases e' with z | z
      · rw [z]; exact Nat.le_add_right _ _
      · rw [z]; exact Nat.le_refl _
    exact I1.fpOk hle (I1.hok.fresh hle)

/-! ### at data -/
theorem Reps.one {pn : Pw} {K : PySem.W.Frag} {H : Hp} {vs : List V} {x : D} (r : Reps pn K H vs [x]) : ∃ v, vs = [v] ∧ Rep pn K H v x := by
  cases r with
  | cons a b =>
    cases b
    exact ⟨_, rfl, a⟩
theorem Reps.two {pn : Pw} {K : PySem.W.Frag} {H : Hp} {vs : List V} {x y : D} (r : Reps pn K H vs [x, y]) : ∃ v w, vs = [v, w] ∧ Rep pn K H v x ∧ Rep pn K H w y := by
  cases r with
  | cons a b =>
    obtain ⟨w, rfl, q⟩ := b.one
    exact ⟨_, _, rfl, a, q⟩
def enumD (l : List D) : List D := (List.range l.length).map fun i => D.tup [.int (i : Nat), l[i]?.getD .non]
theorem enumD_len {l : List D} : (enumD l).length = l.length := by unfold enumD; simp
theorem enumD_get {l : List D} {i : Nat} {y : D} (h : l[i]? = some y) : (enumD l)[i]? = some (.tup [.int (i : Nat), y]) := by
  unfold enumD
  have hi : i < l.length := by
    rcases Nat.lt_or_ge i l.length with q | q
    · exact q
    · rw [List.getElem?_eq_none q] at h
      cases h
  rw [List.getElem?_map, List.getElem?_range hi]
  show some (D.tup [D.int (i : Nat), l[i]?.getD .non]) = _
  rw [h]
  rfl
def zipD (l k : List D) : List D := l.zipWith (fun x y => D.tup [x, y]) k
theorem rep_pair {pn : Pw} {K : PySem.W.Frag} {H : Hp} {T : Addr} {v w : V} {x y : D} (hT : H T = none) (h1 : Rep pn K H v x) (h2 : Rep pn K H w y) : Rep pn K (upd H T (.tup [v, w])) (.ref T) (.tup [x, y]) :=
  .tup (SqT.of upd_same) (.cons (h1.gr (Gr.new hT)) (.cons (h2.gr (Gr.new hT)) .nil))
section
variable {X : Cx} {pn : Pw} {H0 : Hp} {a b : Expr} {ta tb : TD} {pos : Pos}
theorem itD_enum {K : PySem.W.Frag} {c : Addr} {vs : List V} {l : List D} {H : Hp} (h : FzL K H c vs) (r : Reps pn K H vs l) : ItD pn K (Ite K c) (enumD l) H where
  go := fun H' i g hi => by
    rw [enumD_len] at hi
    obtain ⟨x, hx⟩ : ∃ x, l[i]? = some x := ⟨_, List.getElem?_eq_getElem hi⟩
    obtain ⟨v, hv, _⟩ := r.get hx
    exact ⟨vs, v, (h.gr g).sq, hv⟩
  yl := fun H' i x H2 g hi y => by
    obtain ⟨T, v, rfl, hT, rfl, y⟩ := y
    obtain ⟨z, h1, h2⟩ := r.getV (y vs (h.gr g).sq)
    exact ⟨_, enumD_get h1, rep_pair hT (.int _) (h2.gr g), .inr ⟨_, _, hT, rfl⟩⟩
  st := fun H' g => ⟨vs, (h.gr g).sq, by rw [r.length, enumD_len]; exact Nat.le_refl _⟩
theorem itD_enumT {K : PySem.W.Frag} {c : Addr} {vs : List V} {l : List D} {H : Hp} (h : SqT K H c vs) (r : Reps pn K H vs l) : ItD pn K (IteT K c) (enumD l) H where
  go := fun H' i g hi => by
    rw [enumD_len] at hi
    obtain ⟨x, hx⟩ : ∃ x, l[i]? = some x := ⟨_, List.getElem?_eq_getElem hi⟩
    obtain ⟨v, hv, _⟩ := r.get hx
    exact ⟨vs, v, sqT_gr g h, hv⟩
  yl := fun H' i x H2 g hi y => by
    obtain ⟨T, v, rfl, hT, rfl, y⟩ := y
    obtain ⟨z, h1, h2⟩ := r.getV (y vs (sqT_gr g h))
    exact ⟨_, enumD_get h1, rep_pair hT (.int _) (h2.gr g), .inr ⟨_, _, hT, rfl⟩⟩
  st := fun H' g => ⟨vs, sqT_gr g h, by rw [r.length, enumD_len]⟩
def iEL (t : TD) : TID := fun e n Q => t e n fun x m => opt (asL x) fun l => Q (enumD l) m
def iET (t : TD) : TID := fun e n Q => t e n fun x m => opt (asTp x) fun l => Q (enumD l) m
theorem pid_enumL {elts : List Expr} {kk : Nat} {tpos p : Pos} (hg : Gl X "enumerate") (hm : X.mg "enumerate" = none) (h : PD X pn H0 .m a ta) (hs : starEach [a] X.env = [(false, eval a X.env)] := by rfl) : PID X pn H0 (.Tuple elts kk tpos) (.Call (.Name "enumerate" p) [a] [] pos) (iEL ta) :=
  pi_wk (pi_enum hg hm (pa_cons h pa_nil hs) hs) fun σ H R ⟨e, n, Qd, g, ht, q⟩ => ⟨e, n, _, g, ht, fun v H1 x n1 g1 x1 r1 h1 => by
    obtain ⟨l, e1, h2⟩ := opt_some h1
    have e2 := asL_some e1
    subst e2
    cases r1 with
    | lst h3 h4 => exact ⟨_, _, rfl, h3.sq, q _ H1 _ n1 g1 x1 (itD_enum h3 h4) h2⟩⟩
theorem pid_enumT {elts : List Expr} {kk : Nat} {tpos p : Pos} (hg : Gl X "enumerate") (hm : X.mg "enumerate" = none) (h : PD X pn H0 .m a ta) (hs : starEach [a] X.env = [(false, eval a X.env)] := by rfl) : PID X pn H0 (.Tuple elts kk tpos) (.Call (.Name "enumerate" p) [a] [] pos) (iET ta) :=
  pi_wk (pi_enumT hg hm (pa_cons h pa_nil hs) hs) fun σ H R ⟨e, n, Qd, g, ht, q⟩ => ⟨e, n, _, g, ht, fun v H1 x n1 g1 x1 r1 h1 => by
    obtain ⟨l, e1, h2⟩ := opt_some h1
    have e2 := asTp_some e1
    subst e2
    cases r1 with
    | tup h3 h4 => exact ⟨_, _, rfl, h3, q _ H1 _ n1 g1 x1 (itD_enumT h3 h4) h2⟩⟩
theorem zipD_len {l k : List D} : (zipD l k).length = min l.length k.length := by unfold zipD; simp
theorem zipD_get {l k : List D} {i : Nat} {x y : D} (h : l[i]? = some x) (h' : k[i]? = some y) : (zipD l k)[i]? = some (.tup [x, y]) := by
  unfold zipD
  rw [List.getElem?_zipWith, h, h']
theorem zipD_lt {l k : List D} {i : Nat} (h : i < (zipD l k).length) : (∃ x, l[i]? = some x) ∧ ∃ y, k[i]? = some y := by
  rw [zipD_len] at h
  exact ⟨⟨_, List.getElem?_eq_getElem (by omega)⟩, ⟨_, List.getElem?_eq_getElem (by omega)⟩⟩
theorem itD_zip {K : PySem.W.Frag} {c d : Addr} {vs ws : List V} {l k : List D} {H : Hp} (h : FzL K H c vs) (r : Reps pn K H vs l) (h' : FzL K H d ws) (r' : Reps pn K H ws k) : ItD pn K (Itz K c d) (zipD l k) H where
  go := fun H' i g hi => by
    obtain ⟨⟨x, hx⟩, y, hy⟩ := zipD_lt hi
    obtain ⟨v, hv, _⟩ := r.get hx
    obtain ⟨w, hw, _⟩ := r'.get hy
    exact ⟨vs, ws, v, w, (h.gr g).sq, (h'.gr g).sq, hv, hw⟩
  yl := fun H' i x H2 g hi y => by
    obtain ⟨T, v, w, rfl, hT, rfl, y, y'⟩ := y
    obtain ⟨z, h1, h2⟩ := r.getV (y vs (h.gr g).sq)
    obtain ⟨z', h1', h2'⟩ := r'.getV (y' ws (h'.gr g).sq)
    exact ⟨_, zipD_get h1 h1', rep_pair hT (h2.gr g) (h2'.gr g), .inr ⟨_, _, hT, rfl⟩⟩
  st := fun H' g => ⟨vs, ws, (h.gr g).sq, (h'.gr g).sq, by rw [r.length, r'.length, zipD_len]; omega⟩
theorem itD_zipT {K : PySem.W.Frag} {c d : Addr} {vs ws : List V} {l k : List D} {H : Hp} (h : SqT K H c vs) (r : Reps pn K H vs l) (h' : SqT K H d ws) (r' : Reps pn K H ws k) : ItD pn K (RZ.ItzT K c d) (zipD l k) H where
  go := fun H' i g hi => by
    obtain ⟨⟨x, hx⟩, y, hy⟩ := zipD_lt hi
    obtain ⟨v, hv, _⟩ := r.get hx
    obtain ⟨w, hw, _⟩ := r'.get hy
    exact ⟨vs, ws, v, w, sqT_gr g h, sqT_gr g h', hv, hw⟩
  yl := fun H' i x H2 g hi y => by
    obtain ⟨T, v, w, rfl, hT, rfl, y, y'⟩ := y
    obtain ⟨z, h1, h2⟩ := r.getV (y vs (sqT_gr g h))
    obtain ⟨z', h1', h2'⟩ := r'.getV (y' ws (sqT_gr g h'))
    exact ⟨_, zipD_get h1 h1', rep_pair hT (h2.gr g) (h2'.gr g), .inr ⟨_, _, hT, rfl⟩⟩
  st := fun H' g => ⟨vs, ws, sqT_gr g h, sqT_gr g h', by rw [r.length, r'.length, zipD_len]; omega⟩
/-- two lists, or two tuples, walked side by side -/
def asLL : D → D → Option (List D × List D)
  | .lst l, .lst k => some (l, k)
  | .tup l, .tup k => some (l, k)
  | _, _ => none
def iZp (t u : TD) : TID := fun e n Q => t e n fun x m => u e m fun y k => opt (asLL x y) fun p => Q (zipD p.1 p.2) k
theorem pid_zip {elts : List Expr} {kk : Nat} {tpos p : Pos} (hg : Gl X "zip") (hm : X.mg "zip" = none) (h : PD X pn H0 .m a ta) (h' : PD X pn H0 .m b tb) (hs : starEach [a, b] X.env = (false, eval a X.env) :: starEach [b] X.env := by rfl) (hs2 : starEach [b] X.env = [(false, eval b X.env)] := by rfl) (hpl : (backTo pos (starEach [b] X.env)).any (·.1) = false := by rfl) :
    PID X pn H0 (.Tuple elts kk tpos) (.Call (.Name "zip" p) [a, b] [] pos) (iZp ta tb) :=
  pi_wk (RZ.pi_zipA hg hm (pa_cons h (pa_cons h' pa_nil hs2) hs) hs hpl) fun σ H R ⟨e, n, Qd, g, ht, q⟩ => ⟨e, n, _, g, ht, fun v H1 x n1 g1 x1 r1 h1 => ⟨e, n1, _, g1, h1, fun w H2 y n2 g2 x2 r2 h2 => by
    obtain ⟨⟨l, k⟩, e1, h3⟩ := opt_some h2
    unfold asLL at e1
    split at e1
    · cases e1
      cases r1.gr (x2.gr g1.pen) with
      | lst h4 h5 =>
        cases r2 with
        | lst h6 h7 => exact ⟨_, _, _, _, rfl, .inl ⟨h4.sq, h6.sq, q _ H2 _ n2 g2 (x1.trans x2) (itD_zip h4 h5 h6 h7) h3⟩⟩
    · cases e1
      cases r1.gr (x2.gr g1.pen) with
      | tup h4 h5 =>
        cases r2 with
        | tup h6 h7 => exact ⟨_, _, _, _, rfl, .inr ⟨h4, h6, q _ H2 _ n2 g2 (x1.trans x2) (itD_zipT h4 h5 h6 h7) h3⟩⟩
    · cases e1⟩⟩
end
end VD

set_option Elab.async false
set_option linter.all false
set_option maxRecDepth 100000
set_option maxHeartbeats 4000000
namespace VD
open PySem L2
open AutoSeq1

/-! ### the frame of a generator expression -/
abbrev gEnv (X : Cx) (scope : Scope) (code : Value) (s : Shared) : Env := genEnv scope (cloFrom X.env.cells scope.names []) s.heap.objs.size code builtinsNs X.env
def genX (X : Cx) (N : List Str) (scope : Scope) (code : Value) (pl : List (Addr × Obj)) (fp : List Addr) (A' : Around) (s : Shared) (H : Hp) : Cx where
  prog := X.prog
  w := X.w
  K := X.K
  mg := X.mg
  base := X.base
  A := A'
  N := N
  s_0 := s
  H_0 := H
  env := gEnv X scope code s
  outer := X.stack
  stack := gEnv X scope code s :: X.stack
  ex := fp
  fn := fun _ => false
  calm := true
  pn := pl
  xe := fun _ _ => False
/-- the slots: the name that walks, then what is captured of the def's own -/
def capS {α : Type} (cs : List (Str × Nat)) (σ : List (Option α)) : List (Option α) := none :: cs.map fun p => σ[p.2]?.getD none
structure Caps (X : Cx) (scope : Scope) (cs : List (Str × Nat)) : Prop where
  at_ : ∀ p ∈ cs, X.N[p.2]? = some p.1
  free : ∀ p ∈ cs, (p.1, NameKind.free) ∈ scope.names
  look : ∀ p ∈ cs, scope.names.lookup p.1 = some .free
  cell : ∀ p ∈ cs, X.env.scope.names.lookup p.1 = some .cell
section
variable {X : Cx} {pins : List (Addr × Obj)} {σ : L2.St} {H : Hp} {s : Shared} {x : Str} {scope : Scope} {code : Value} {pl : List (Addr × Obj)} {A' : Around} {cs : List (Str × Nat)} {fp : List Addr}
theorem inv_gen (I : Inv X pins σ H s) (S : GxR.GenS X.env scope x) (C : Caps X scope cs) (hf : A'.frames = some (gEnv X scope code s :: X.stack)) (hh : A'.handled = none)
    {h5 : Heap} {tk : Nat} {G : Array GenState} (k : ∀ b o, s.heap.get? b = some o → h5.get? b = some o) {m0 : Str → Option Value} (hn : h5.Ns s.heap.objs.size m0) (hG : PyProof.Rows.AllBare G)
    (hp : ∀ p ∈ pl, h5.get? p.1 = some p.2 ∧ s.heap.objs.size < p.1 ∧ ∀ v, p.2.data ≠ .cell v) (hfp : ∀ b ∈ fp, FpOk X pins H b ∧ b < s.heap.objs.size) :
    Inv (genX X (x :: cs.map (·.1)) scope code pl fp A' s H) [] (capS cs σ) H { s with gens := G, toks := tk, heap := h5 } := by
  have cm : ∀ y c, (cloFrom X.env.cells scope.names []).lookup y = some c → X.env.cells.lookup y = some c := fun y c e => NdefX.clo_cm S.free e
  refine ⟨⟨I.ok.mod, S.kind, I.ok.glob, rfl, Nat.le_refl _, fun y z c h1 h2 => I.ok.inj y z c (cm _ _ h1) (cm _ _ h2), fun y hy => ?_, fun _ _ z => absurd z Bool.false_ne_true, fun _ => hh, hf, .inr ⟨rfl, rfl⟩, fun b z => ⟨Nat.ne_of_lt (hfp b z).2, fun y c e => (hfp b z).1.2.2.2.2.1 y c (cm y c e)⟩, I.bs, Nat.le_trans I.ok.bsz I.sz, fun b o e z => (hfp b z).1.2.2.2.1.elim (I.ok.noex b o e) fun q => absurd (Nat.lt_of_lt_of_le (Nat.lt_of_lt_of_le (Heap.lt_size e) I.ok.bsz) q) (Nat.lt_irrefl _), fun b z q => (List.mem_cons.mp (I.stkSub b q)).elim (hfp b z).1.2.1 (hfp b z).1.2.2.1, I.stack, I.stkFree⟩,
    rfl, hG, Un.kept k, ⟨m0, hn, fun i y v h1 h2 h3 => ?_⟩, fun y c e => ?_, I.hok.fresh (Nat.le_refl _), fun y c e => I.freeC y c (cm y c e), fun p hp' => ?_, I.hok.kept k, ?_⟩
  · have hy : scope.names.lookup y = some .cell ∨ scope.names.lookup y = some .free := hy
    rcases hy with hy | hy
    · exact absurd rfl (S.cell _ (PySem.mem_of_lookup hy))
    · exact mem_lookup (cloFrom_has (cells := X.env.cells) (acc := []) (PySem.mem_of_lookup hy))
  · cases i with
    | zero => cases h2
    | succ i =>
      have h1 : (cs.map (·.1))[i]? = some y := h1
      have h2 : (cs.map fun p => σ[p.2]?.getD none)[i]? = some (some v) := h2
      rw [List.getElem?_map] at h1 h2
      cases e : cs[i]? with
      | none =>
        rw [e] at h1
        cases h1
      | some p =>
        rw [e] at h1 h2
        cases h1
        have h2 : σ[p.2]?.getD none = some v := Option.some.inj h2
        have hm : p ∈ cs := List.mem_of_getElem? e
        obtain ⟨m, hns, lo⟩ := I.loc
        have h2' : σ[p.2]? = some (some v) := by
          cases q : σ[p.2]? with
          | none =>
            rw [q] at h2
            cases h2
          | some w =>
            rw [q] at h2
            have h2 : w = some v := h2
            rw [h2]
        obtain ⟨u, r, l⟩ := lo p.2 p.1 v (C.at_ p hm) h2' (.inr (.inl (C.cell p hm)))
        refine ⟨u, r, .inr ⟨.inr (C.look p hm), ?_⟩⟩
        rcases l with ⟨l, _⟩ | ⟨_, c, l1, l2⟩
        · have l : X.env.scope.names.lookup p.1 = some .local := l
          rw [C.cell p hm] at l
          cases l
        · exact ⟨c, NdefX.clo_has S.free (C.free p hm) l1, l2.keeps k⟩
  · obtain ⟨v, q⟩ := I.cell y c (cm y c e)
    exact ⟨v, q.keeps k⟩
  · have hp' : p ∈ pl ++ [] := hp'
    rw [List.append_nil] at hp'
    obtain ⟨h1, h2, h3⟩ := hp p hp'
    exact ⟨h1, I.hok.fresh (Nat.le_of_lt h2), Nat.ne_of_gt h2, fun z => absurd (I.stkSub p.1 z) fun z => by
      rcases List.mem_cons.mp z with z | z
      · exact absurd (Nat.lt_trans I.lt h2) (by rw [z]; exact Nat.lt_irrefl _)
      · exact I.nofs (Nat.le_of_lt h2) z, h3⟩
  · unfold capS genX
    simp
end

/-! ### its turns -/
section
variable {Y : Cx} {x : Str} {elt iter : Expr} {px pos : Pos} {scope : Scope} {J : It} {fp : List Addr} {it : Addr} {tn : Nat → Heap → Prop} {n : Nat} {tr : Nat → Bool} {W : Nat → L2.St → Hp → Prop} {g : TG} {te : TE}
def GI (Y : Cx) (fp : List Addr) (tn : Nat → Heap → Prop) (W : Nat → L2.St → Hp → Prop) (i : Nat) (s : Shared) : Prop := ∃ σ H, Inv Y [] σ H s ∧ tn i s.heap ∧ (∀ b ∈ fp, H b = none) ∧ W i σ H
theorem Inv.gens {pins : List (Addr × Obj)} {σ : L2.St} {H : Hp} {s s' : Shared} (I : Inv Y pins σ H s) (h : s'.heap = s.heap) (o : s'.os = s.os) (b : PyProof.Rows.AllBare s'.gens) : Inv Y pins σ H s' := by
  obtain ⟨hp, gs, dr, tk, os⟩ := s'
  dsimp only at h o
  subst h o
  exact ⟨I.ok, I.os, b, I.base, I.loc, I.cell, I.free, I.freeC, I.pin, I.hok, I.len⟩
theorem GI.gens {i : Nat} {s s' : Shared} (q : GI Y fp tn W i s) (h : s'.heap = s.heap) (o : s'.os = s.os) (b : PyProof.Rows.AllBare s'.gens) : GI Y fp tn W i s' := by
  obtain ⟨σ, H, I, a, c, d⟩ := q
  exact ⟨σ, H, VD.Inv.gens I h o b, by rw [h]; exact a, c, d⟩
/-- what is asked of the turns: the walk, the element -/
def Turns (J : It) (n : Nat) (tr : Nat → Bool) (W : Nat → L2.St → Hp → Prop) (g : TG) (te : TE) : Prop := ∀ i σ H, W i σ H →
  (i = n ∧ J.stop i H) ∨ (i < n ∧ J.go i H ∧ ∀ y H', J.yld i H y H' → g y σ H' fun σ2 H2 => te σ2 H2 fun v H3 => v = .bl (tr i) ∧ W (i + 1) σ2 H3)
def gPro (Y : Cx) (fp : List Addr) (tn : Nat → Heap → Prop) (W : Nat → L2.St → Hp → Prop) (n : Nat) (tr : Nat → Bool) : Protocol := fun m _ v s kap =>
  ∃ i, m + 1 + i = n ∧ v = .bool (tr i) ∧ GI Y fp tn W (i + 1) s ∧ ∀ s', s'.heap = s.heap → s'.os = s.os → PyProof.Rows.AllBare s'.gens → kap (.send .none) s'
def GO (Y : Cx) (W : Nat → L2.St → Hp → Prop) (i : Nat) (s : Shared) : Prop := ∃ σ H, Inv Y [] σ H s ∧ W i σ H
theorem GI.out {i : Nat} {s : Shared} (q : GI Y fp tn W i s) : GO Y W i s := let ⟨σ, H, I, _, _, w⟩ := q; ⟨σ, H, I, w⟩
def gEnd (Y : Cx) (W : Nat → L2.St → Hp → Prop) (n : Nat) : GenEnd := fun m _ r s₁ => r = .ok .next ∧ (m = 0 ∧ GO Y W n s₁)
abbrev gLoop (elt iter : Expr) (x : Str) (px pos : Pos) (scope : Scope) (it : Addr) (e : Env) : Code := .compLoop (.GeneratorExp elt [⟨.Name x px, iter, [], 0⟩] scope pos) 0 (.ref it) .none e
abbrev gStart (elt iter : Expr) (x : Str) (px pos : Pos) (scope : Scope) (it : Addr) (e : Env) : Code := .compStart (.GeneratorExp elt [⟨.Name x px, iter, [], 0⟩] scope pos) 0 (.ref it) .none e

theorem gen_loop {A : Around} (hA : A.over (gLoop elt iter x px pos scope it Y.env) [] = Y.A) (hcalm : Y.calm = true) (hxe : Y.xe = fun _ _ => False) (hco : Y.env.scope.isCoroutine = false)
    (T : Turn Y.prog Y.w Y.K (.Name x px) J fp it tn) (st : ∀ b ∈ fp, ∀ H : Hp, H b = none → FpOk Y [] H b) (hg : PG Y (.Name x px) g) (he : PE Y elt te) (tu : Turns J n tr W g te) :
    ∀ (m i : Nat) (s0 s : Shared), m + i = n → GI Y fp tn W i s →
      Seg (model Y.prog Y.w) A (gEnd Y W n) (gPro Y fp tn W n tr) m s0 (gLoop elt iter x px pos scope it Y.env) ((model Y.prog Y.w).den (gLoop elt iter x px pos scope it Y.env)) [] s := by
  intro m
  induction m with
  | zero =>
    rintro i s0 s hm ⟨σ, H, I, h1, h2, h3⟩
    rcases tu i σ H h3 with ⟨hi, hs⟩ | ⟨hi, _⟩
    · show Seg _ A _ _ _ s0 _ ((compTurn (.GeneratorExp elt [⟨.Name x px, iter, [], 0⟩] scope pos) 0 (.ref it) .none Y.env).onRaise (leaving Y.env)) [] s
      rw [compTurn_gen, Sem.onRaise_eq_wrap]
      refine seg_bind_wrap (wpAny_standAt (seg_bind_wrap ?_))
      rw [hA]
      refine wpAny_mono (T.done Y rfl rfl rfl hcalm i [] s σ H (fun _ _ => False) I (fun b hb => st b hb H (h2 b hb)) h1 hs) (fun r s1 ⟨e, I1⟩ => ?_) fun _ _ z => z.elim
      subst e
      subst hi
      exact seg_end (.ok .next) ⟨rfl, rfl, σ, H, I1, h3⟩
    · omega
  | succ m ih =>
    rintro i s0 s hm ⟨σ, H, I, h1, h2, h3⟩
    rcases tu i σ H h3 with ⟨hi, hs⟩ | ⟨hi, hgo, step⟩
    · omega
    · show Seg _ A _ _ _ s0 _ ((compTurn (.GeneratorExp elt [⟨.Name x px, iter, [], 0⟩] scope pos) 0 (.ref it) .none Y.env).onRaise (leaving Y.env)) [] s
      rw [compTurn_gen, Sem.onRaise_eq_wrap]
      refine seg_bind_wrap (wpAny_standAt (seg_bind_wrap ?_))
      rw [hA]
      refine wpAny_mono (T.item Y rfl rfl rfl hcalm i [] s σ H (fun _ _ => False) I (fun b hb => st b hb H (h2 b hb)) h1 hgo) (fun r s1 ⟨u, e, q⟩ => ?_) fun _ _ z => z.elim
      subst e
      refine seg_bind_wrap ?_
      rw [hA]
      refine wpAny_mono q (fun _ s2 ⟨y, H2, I2, r2, y2, t2, f2⟩ => ?_) fun _ _ z => z.elim
      refine seg_bind_wrap ?_
      rw [hA]
      have I2' := I2.pinned (fun b hb => st b hb H2 (f2 b hb)) (T.obj _ _ t2)
      refine wpAny_mono (hg.run _ s2 σ H2 y u _ I2' r2 (step y H2 y2)) (fun _ s3 ⟨σ3, H3, I3, q3⟩ => ?_) fun _ _ z => absurd z (by rw [hxe]; exact fun z => z)
      simp only [List.forIn_nil]
      refine seg_bind_wrap (wpAny_pure ?_)
      simp only [if_true]
      have hy : ∀ v, yieldOut Y.env v = yieldValue v := fun v => by simp only [yieldOut, hco, Bool.false_eq_true, if_false]
      simp only [hy]
      rw [Sem.bind_eq_wrap', Sem.bind_eq_wrap', Sem.wrap_wrap, Sem.wrap_wrap]
      refine seg_wrap ?_
      rw [hA]
      refine wpAny_mono (he.run _ s3 σ3 H3 _ I3 q3) (fun u4 s4 ⟨v4, H4, I4, r4, e4, w4⟩ => ?_) fun _ _ z => absurd z (by rw [hxe]; exact fun z => z)
      subst e4
      cases r4
      have t4 : tn (i + 1) s4.heap := T.keep _ _ _ t2 fun b hb o e => (I4.pin (b, o) (List.mem_append_right _ (List.mem_append_right _ (mem_pinsAt hb e)))).1
      have f4 : ∀ b ∈ fp, H4 b = none := fun b hb => by
        obtain ⟨o, e, d⟩ := T.obj _ _ t2 b hb
        exact (I4.pin (b, o) (List.mem_append_right _ (List.mem_append_right _ (mem_pinsAt hb e)))).2.1
      have G4 : GI Y fp tn W (i + 1) s4 := ⟨σ3, H4, I4.unpinned, t4, f4, w4⟩
      refine seg_at (seg_yield rfl rfl rfl ⟨i, by omega, rfl, G4, fun s5 e5 o5 b5 => ?_⟩)
      exact seg_again rfl (ih (i + 1) s5 s5 (by omega) (G4.gens e5 o5 b5))
theorem gen_start {A : Around} (hA : A.over (gLoop elt iter x px pos scope it Y.env) [] = Y.A) (hcalm : Y.calm = true) (hxe : Y.xe = fun _ _ => False) (hco : Y.env.scope.isCoroutine = false)
    (T : Turn Y.prog Y.w Y.K (.Name x px) J fp it tn) (st : ∀ b ∈ fp, ∀ H : Hp, H b = none → FpOk Y [] H b) (hg : PG Y (.Name x px) g) (he : PE Y elt te) (tu : Turns J n tr W g te) {s0 s : Shared} (G : GI Y fp tn W 0 s) :
    Seg (model Y.prog Y.w) A (gEnd Y W n) (gPro Y fp tn W n tr) n s0 (gStart elt iter x px pos scope it Y.env) ((model Y.prog Y.w).den (gStart elt iter x px pos scope it Y.env)) [] s := by
  have loop := gen_loop (iter := iter) (px := px) (pos := pos) (scope := scope) (A := A) hA hcalm hxe hco T st hg he tu n 0 s0 s rfl G
  obtain ⟨σ, H, I, h1, _⟩ := G
  show Seg _ A _ _ _ s0 _ ((compStart (.GeneratorExp elt [⟨.Name x px, iter, [], 0⟩] scope pos) 0 (.ref it) .none Y.env).onRaise (leaving Y.env)) [] s
  unfold compStart
  rw [Sem.onRaise_eq_wrap]
  show Seg _ A _ _ _ s0 _ ((ask >>= _).wrap _ _ _ _) [] s
  refine seg_bind_wrap (wpAny_askSetting ?_)
  split
  · exact seg_again rfl loop
  · first
      | exact seg_bind_wrap (wpAny_rule (seg_bind_wrap (wpAny_standAt (seg_bind_wrap (T.self _ 0 s _ _ h1 (seg_again rfl loop))))))
      | (refine seg_bind_wrap (wpAny_rule ?_)
         show Seg _ A _ _ _ s0 _ ((standAt iter.pos >>= _).wrap _ _ _ _) [] s
         exact seg_bind_wrap (wpAny_standAt (seg_bind_wrap (T.self _ 0 s _ _ h1 (seg_again rfl loop)))))

/-! ### the generator object, asleep -/
def GA (Y : Cx) (A : Around) (fp : List Addr) (tn : Nat → Heap → Prop) (W : Nat → L2.St → Hp → Prop) (n : Nat) (tr : Nat → Bool) (a : Addr) (gi : Nat) (i : Nat) (s : Shared) : Prop :=
  i ≤ n ∧ GI Y fp tn W i s ∧ s.heap.IsGen a gi ∧ ∃ gs, s.gens[gi]? = some gs ∧ ∀ s', s'.heap = s.heap → s'.os = s.os → PyProof.Rows.AllBare s'.gens → gs.Goes (model Y.prog Y.w) A (gEnd Y W n) (gPro Y fp tn W n tr) (n - i) (.send .none) s'
theorem bare_set {G : Array GenState} {gi : Nat} {x : GenState} (h : PyProof.Rows.AllBare G) (hx : x.bare = true) : PyProof.Rows.AllBare (G.setIfInBounds gi x) := fun y hy => by
  rcases Array.mem_or_eq_of_mem_setIfInBounds hy with q | q
  · exact h y q
  · rw [q]
    exact hx
/-- next(..) of it -/
theorem gen_next {A : Around} {a : Addr} {gi i : Nat} {s : Shared} {Q : Option Value → Shared → Prop} {E : Value → Shared → Prop} (hh : A.handled = none) (hroom : A.depth < recursionLimit) (pin : ∃ o : Obj, (a, o) ∈ Y.pn)
    (h : GA Y A.in1 fp tn W n tr a gi i s)
    (some_ : ∀ s', i < n → GA Y A.in1 fp tn W n tr a gi (i + 1) s' → Q (some (.bool (tr i))) s') (none_ : ∀ s', i = n → GO Y W n s' → Q none s') :
    wpAny (model Y.prog Y.w) A (pyNext (.ref a)) Q E s := by
  obtain ⟨hi, hI, hg, gs, hgs, hgo⟩ := h
  have lim : s.heap.NoLimit := let ⟨_, _, I, _⟩ := hI; I.nolimit
  have bare : PyProof.Rows.AllBare s.gens := let ⟨_, _, I, _⟩ := hI; I.bare
  have lt : gi + 1 ≤ s.gens.size := by
    rcases Nat.lt_or_ge gi s.gens.size with q | q
    · exact q
    · rw [Array.getElem?_eq_none q] at hgs
      cases hgs
  obtain ⟨o, po⟩ := pin
  have at_ : ∀ {j : Nat} {s1 : Shared}, GI Y fp tn W j s1 → s1.heap.get? a = some o := fun ⟨_, _, I, _⟩ => (I.pin (a, o) (List.mem_append_left _ po)).1
  refine GenW.wpAny_gsz lt (wpAny_pyNext_genexpQ (P := fun m _ s₁ => m = 0 ∧ GO Y W n s₁) hh lim hroom hg hgs (hgo (s.setGen gi .running) rfl rfl (bare_set bare rfl)) (fun v s1 gs' hb hv => ?_) fun s1 hp h' hk => ?_)
  · obtain ⟨j, hj, rfl, G1, kap⟩ := hv
    intro hsz
    have hs1 : gi < s1.gens.size := by rw [GenW.setGen_size] at hsz; exact hsz
    have bare1 : PyProof.Rows.AllBare s1.gens := let ⟨_, _, I, _⟩ := G1; I.bare
    cases hm : n - i with
    | zero =>
      rw [hm] at kap
      exact (kap s1 rfl rfl bare1).elim
    | succ m =>
      rw [hm] at kap hj
      have e : j = i := by omega
      subst e
      refine some_ _ (by omega) ⟨by omega, G1.gens rfl rfl (bare_set bare1 hb), ?_, gs', ?_, fun s' e1 e2 e3 => ?_⟩
      · obtain ⟨o', nm, qn, ho, r⟩ := hg
        have q : o' = o := by
          have q1 := at_ hI
          rw [ho] at q1
          exact Option.some.inj q1
        subst q
        have q2 := at_ G1
        exact ⟨o', nm, qn, q2, r⟩
      · show (s1.gens.setIfInBounds gi gs')[gi]? = some gs'
        rw [Array.getElem?_setIfInBounds_self_of_lt hs1]
      · have e4 : n - (j + 1) = m := by omega
        rw [e4]
        exact kap s' e1 e2 e3
  · obtain ⟨hz, σ, H, I, w⟩ := hp
    intro _
    have en : i = n := by omega
    refine none_ _ en ⟨σ, H, ?_, w⟩
    exact VD.Inv.gens (s' := { s1.setGen gi .finished with heap := h' }) (I.kept (h' := h') (t' := s1.toks) hk) rfl rfl (bare_set I.bare rfl)
theorem GenEnd_range {n i : Nat} (h : i < n) : (List.range n).drop i = i :: (List.range n).drop (i + 1) := by
  have hl : i < (List.range n).length := by rw [List.length_range]; exact h
  rw [List.drop_eq_getElem_cons (l := List.range n) hl, List.getElem_range]
/-- all(..) over it -/
theorem all_turns {A : Around} {R : Result → Shared → Prop} {a : Addr} {gi : Nat} (hh : A.handled = none) (hroom : A.depth < recursionLimit) (pin : ∃ o : Obj, (a, o) ∈ Y.pn) :
    ∀ (m i : Nat) (s : Shared), m + i = n → GA Y A.in1.in1 fp tn W n tr a gi i s → (∀ j s1, j ≤ n → GO Y W j s1 → R (.ok (.ret (.bool (((List.range n).drop i).all tr)))) s1) →
      codeAny (model Y.prog Y.w) A (.builtin "all.loop" ⟨[.ref a], []⟩) R s := by
  intro m
  induction m with
  | zero =>
    intro i s hm h out
    have hi : i = n := (Nat.zero_add i).symm.trans hm
    refine codeAny_builtin (R := R) F.entry_all_loop ?_
    rw [Around.under_plainId (A := A) F.plain_all_loop _]
    show wpAny _ A.in1 (pyNext (.ref a) >>= _) _ _ s
    refine wpAny_bind (gen_next hh hroom pin h (fun s1 q => absurd q (by omega)) fun s1 _ q => wpAny_bind (wpAny_rule (wpAny_pure ?_)))
    have z := out n s1 (Nat.le_refl n) q
    rw [hi, List.drop_of_length_le (by simp)] at z
    exact z
  | succ m ih =>
    intro i s hm h out
    have hd : (List.range n).drop i = i :: (List.range n).drop (i + 1) := GenEnd_range (by omega)
    refine codeAny_builtin (R := R) F.entry_all_loop ?_
    rw [Around.under_plainId (A := A) F.plain_all_loop _]
    show wpAny _ A.in1 (pyNext (.ref a) >>= _) _ _ s
    refine wpAny_bind (gen_next hh hroom pin h (fun s1 lt q => wpAny_bind (wpAny_holding (wpAny_truthy_bool (wpAny_bind (wpAny_letGo ?_))))) fun s1 e _ => absurd e (by omega))
    cases hb : tr i with
    | true =>
      simp only [Bool.false_eq_true, if_false, if_true]
      refine wpAny_pure ⟨plainId_quiet (id := "all.loop") F.plain_all_loop _, ih (i + 1) s1 (by omega) q fun j s2 hj g => ?_⟩
      have z := out j s2 hj g
      rw [hd, List.all_cons, hb, Bool.true_and] at z
      exact z
    | false =>
      simp only [Bool.false_eq_true, if_false, if_true]
      refine wpAny_bind (wpAny_rule (wpAny_pure ?_))
      have z := out (i + 1) s1 lt q.2.1.out
      rw [hd, List.all_cons, hb, Bool.false_and] at z
      exact z
/-- any(..) over it -/
theorem any_turns {A : Around} {R : Result → Shared → Prop} {a : Addr} {gi : Nat} (hh : A.handled = none) (hroom : A.depth < recursionLimit) (pin : ∃ o : Obj, (a, o) ∈ Y.pn) :
    ∀ (m i : Nat) (s : Shared), m + i = n → GA Y A.in1.in1 fp tn W n tr a gi i s → (∀ j s1, j ≤ n → GO Y W j s1 → R (.ok (.ret (.bool (((List.range n).drop i).any tr)))) s1) →
      codeAny (model Y.prog Y.w) A (.builtin "any.loop" ⟨[.ref a], []⟩) R s := by
  intro m
  induction m with
  | zero =>
    intro i s hm h out
    have hi : i = n := (Nat.zero_add i).symm.trans hm
    refine codeAny_builtin (R := R) F.entry_any_loop ?_
    rw [Around.under_plainId (A := A) F.plain_any_loop _]
    show wpAny _ A.in1 (pyNext (.ref a) >>= _) _ _ s
    refine wpAny_bind (gen_next hh hroom pin h (fun s1 q => absurd q (by omega)) fun s1 _ q => wpAny_bind (wpAny_rule (wpAny_pure ?_)))
    have z := out n s1 (Nat.le_refl n) q
    rw [hi, List.drop_of_length_le (by simp)] at z
    exact z
  | succ m ih =>
    intro i s hm h out
    have hd : (List.range n).drop i = i :: (List.range n).drop (i + 1) := GenEnd_range (by omega)
    refine codeAny_builtin (R := R) F.entry_any_loop ?_
    rw [Around.under_plainId (A := A) F.plain_any_loop _]
    show wpAny _ A.in1 (pyNext (.ref a) >>= _) _ _ s
    refine wpAny_bind (gen_next hh hroom pin h (fun s1 lt q => wpAny_bind (wpAny_holding (wpAny_truthy_bool (wpAny_bind (wpAny_letGo ?_))))) fun s1 e _ => absurd e (by omega))
    cases hb : tr i with
    | false =>
      simp only [Bool.false_eq_true, if_false, if_true]
      refine wpAny_pure ⟨plainId_quiet (id := "any.loop") F.plain_any_loop _, ih (i + 1) s1 (by omega) q fun j s2 hj g => ?_⟩
      have z := out j s2 hj g
      rw [hd, List.any_cons, hb, Bool.false_or] at z
      exact z
    | true =>
      simp only [Bool.false_eq_true, if_false, if_true]
      refine wpAny_bind (wpAny_rule (wpAny_pure ?_))
      have z := out (i + 1) s1 lt q.2.1.out
      rw [hd, List.any_cons, hb, Bool.true_or] at z
      exact z
end

/-! ### its making -/
section
variable {X : Cx} {pins : List (Addr × Obj)} {σ : L2.St} {H : Hp} {s : Shared} {x : Str} {scope : Scope} {cs : List (Str × Nat)} {elt iter : Expr} {px gpos : Pos} {c P : Addr} {wi : TI} {k : Nat}
abbrev gAr (X : Cx) (c : Code) : Around := X.A.in1.in1.over c []
abbrev gCx (X : Cx) (elt iter : Expr) (x : Str) (px gpos : Pos) (scope : Scope) (cs : List (Str × Nat)) (code : Value) (it : Addr) (pl : List (Addr × Obj)) (fp : List Addr) (s : Shared) (H : Hp) : Cx :=
  genX X (x :: cs.map (·.1)) scope code pl fp (gAr X (gLoop elt iter x px gpos scope it (gEnv X scope code s))) s H
theorem over_frames {A : Around} {l : List Env} {elt iter : Expr} {x : Str} {px pos : Pos} {scope : Scope} {it : Addr} {e : Env} (h : A.frames = some l) : (A.in1.in1.over (gLoop elt iter x px pos scope it e) []).frames = some (e :: l) := by
  obtain ⟨a, b, f, g, u⟩ := A
  dsimp only at h
  subst h
  rfl
/-- a generator object that has just been made -/
structure Made (X : Cx) (pins : List (Addr × Obj)) (σ : L2.St) (elt iter : Expr) (x : Str) (px gpos : Pos) (scope : Scope) (cs : List (Str × Nat)) (J : It) (H2 : Hp) (Y : Cx) (it : Addr) (fp : List Addr) (tn : Nat → Heap → Prop) (a : Addr) (gi : Nat) (s5 : Shared) : Prop where
  cx : ∃ code pl s4, Y = gCx X elt iter x px gpos scope cs code it pl fp s4 H2
  inv : Inv Y [] (capS cs σ) H2 s5
  turn : Turn Y.prog Y.w Y.K (.Name x px) J fp it tn
  stat : ∀ b ∈ fp, ∀ H : Hp, H b = none → FpOk Y [] H b
  tn0 : tn 0 s5.heap
  fpN : ∀ b ∈ fp, H2 b = none
  isG : s5.heap.IsGen a gi
  gs : s5.gens[gi]? = some (.fresh (gStart elt iter x px gpos scope it Y.env))
  pn : ∃ o : Obj, (a, o) ∈ Y.pn
  out : ∀ σ' H' s', Inv Y [] σ' H' s' → Inv X pins σ H' s'
theorem gen_made {Q' : Value → Shared → Prop} {R : It → Hp → Prop} (hh : X.A.handled = none) (hroom : X.A.depth < recursionLimit) (hF : X.A.frames = some X.stack) (TB : GxR.TabB X.base X.mg c P) (hcode : X.env.code = .ref c) (S : GxR.GenS X.env scope x) (C : Caps X scope cs)
    (hi : PI X (.Name x px) iter wi) (hs : ∀ v, genFold iter X.env v = pure v) (I : Inv X pins σ H s) (h : wi σ H fun J H1 => GxR.TabG H1 P ∧ R J H1)
    (hQ : ∀ J H1 H2 Y it fp tn a gi s5, R J H1 → GxR.Tabbed P H1 H2 → Made X pins σ elt iter x px gpos scope cs J H2 Y it fp tn a gi s5 → Q' (.ref a) s5) :
    wpAny (model X.prog X.w) X.A (eval (.GeneratorExp elt [⟨.Name x px, iter, [], 0⟩] scope gpos) X.env) Q' X.xe s := by
  refine wpAny_GeneratorExp_make S.co (closure_ok S.free) S.cell S.dot S.kind hroom ?_ hs
  refine thn (hi.run pins s σ H _ I h) fun xv s1 h1 => thn h1 fun itv s2 ⟨it, fp, tn, J, H1, e, I2, T, t2, f2, ⟨ps, hP, ht⟩, q⟩ => ?_
  subst e
  have hPs : s2.heap.get? P = some { cls := .none, data := .fields ps } := I2.hok P _ hP
  have hPlt : P < s2.heap.objs.size := Heap.lt_size hPs
  have fne : ∀ b ∈ fp, b ≠ P := fun b hb z => by
    have z1 := (f2 b hb).1
    rw [z, hP] at z1
    cases z1
  have cd : PySem.W.CodeHd s2.heap c P := TB.code.keeps fun b u z => I2.bk b u z
  have cont : ∀ (code : Value) (h3 : Heap) (tk : Nat) (more : Array Value), Heap.ExtBut P s2.heap h3 → s2.heap.objs.size ≤ h3.objs.size → h3.get? P = some { cls := .none, data := .fields (ps ++ more) } → PySem.TriplesOk (ps ++ more).toList →
      wpAny (model X.prog X.w) X.A (builtinsFor X.env.globals X.env.builtins) (fun bi s4 => ∀ h' : Heap, h'.Ns s4.heap.objs.size (fun y => if y = ".0" then some (.ref it) else none) → Heap.SameBut s4.heap.objs.size (s4.heap.push { cls := .type "frame", data := .dict #[] }) h' →
        Q' (.ref h'.objs.size) { s4 with
          gens := s4.gens.push (.fresh (.compStart (.GeneratorExp elt [⟨.Name x px, iter, [], 0⟩] scope gpos) 0 (.ref it) .none (genEnv scope (cloFrom X.env.cells scope.names []) s4.heap.objs.size code bi X.env))),
          toks := s4.toks + 1 + 1 + 1,
          heap := h'.push { cls := .type "generator", data := .fields #[.int s4.gens.size 0, .str "<genexpr>" (s4.toks + 1), .str (X.env.qual ++ "<genexpr>") (s4.toks + 1 + 1)] } }) X.xe { s2 with heap := h3, toks := tk } := by
    intro code h3 tk more hx hsz hP3 ht3
    obtain ⟨bm, ob, e1, e2, e3, e4, e5, e6, e7, e8⟩ := TB.bm
    have keep3 : ∀ b u, b ≠ P → s2.heap.get? b = some u → h3.get? b = some u := fun b u hb z => hx b u hb z
    refine wpAny_builtinsFor (m := X.mg) (by rw [I2.ok.glob]; exact (I2.mod.glob.keeps I2.bk).extBut hx TB.gP) e1 e2 (keep3 _ _ e4 (I2.bk _ _ e5)) e6 e7 e8 ?_
    intro h' hn' hsb
    have I3 : Inv X pins σ (upd H1 P (.tbl (ps ++ more))) { s2 with heap := h3, toks := tk } := GxR.inv_tab (g' := s2.gens) (d' := s2.drawn) I2 hP keep3 hP3 I2.bare
    have f3 : ∀ b ∈ fp, FpOk X pins (upd H1 P (.tbl (ps ++ more))) b := fun b hb => ⟨by rw [upd_ne (fne b hb)]; exact (f2 b hb).1, (f2 b hb).2⟩
    have fob : ∀ b ∈ fp, ∃ o, s2.heap.get? b = some o := fun b hb => let ⟨o, z, _⟩ := T.obj _ _ t2 b hb; ⟨o, z⟩
    have flt : ∀ b ∈ fp, b < h3.objs.size := fun b hb => let ⟨o, z⟩ := fob b hb; Nat.lt_of_lt_of_le (Heap.lt_size z) hsz
    have szH : h'.objs.size = h3.objs.size + 1 := by rw [hsb.1]; exact Heap.size_push ..
    have keep4 : ∀ b o, h3.get? b = some o → h'.get? b = some o := fun b o z => hsb.extBut b o (Nat.ne_of_lt (Heap.lt_size z)) (Heap.get?_push_of_some _ z)
    have keep5 : ∀ (w : Obj) b o, h3.get? b = some o → (h'.push w).get? b = some o := fun w b o z => Heap.get?_push_of_some _ (keep4 b o z)
    have bareG : ∀ cc, PyProof.Rows.AllBare (s2.gens.push (.fresh cc)) := fun cc => I2.bare.push rfl
    have FR : (gAr X (gLoop elt iter x px gpos scope it (gEnv X scope code { s2 with heap := h3, toks := tk }))).frames = some (gEnv X scope code { s2 with heap := h3, toks := tk } :: X.stack) := by
      exact over_frames hF
    have IG := inv_gen (fp := fp) (pl := [(h'.objs.size, { cls := .type "generator", data := .fields #[.int s2.gens.size 0, .str "<genexpr>" (tk + 1), .str (X.env.qual ++ "<genexpr>") (tk + 1 + 1)] })]) (code := code) (tk := tk + 1 + 1 + 1) I3 S C FR hh (keep5 _) (hn'.push _) (bareG (gStart elt iter x px gpos scope it (gEnv X scope code { s2 with heap := h3, toks := tk })))
      (fun p hp => by
        have z : p = _ := List.mem_singleton.mp hp
        subst z
        exact ⟨Heap.get?_push_size _ rfl, by show h3.objs.size < h'.objs.size; omega, fun v z => nomatch z⟩) (fun b hb => ⟨f3 b hb, flt b hb⟩)
    refine hQ J H1 _ _ it fp tn _ s2.gens.size _ q ⟨⟨ps ++ more, upd_same, ht3⟩, fun b hb => upd_ne hb⟩ ⟨⟨code, _, _, rfl⟩, IG, T, fun b hb H' z => ?_, ?_, fun b hb => (f3 b hb).1, ⟨_, _, _, Heap.get?_push_size _ rfl, rfl, rfl, rfl⟩, Array.getElem?_push_size .., ⟨_, List.mem_singleton.mpr rfl⟩, fun σ' H' s' J' => ?_⟩
    · refine ⟨z, Nat.ne_of_lt (flt b hb), fun w => (List.mem_cons.mp (I2.stkSub b w)).elim (f2 b hb).2.1 (f2 b hb).2.2.1, .inl hb, fun y e q => (f2 b hb).2.2.2.2.1 y e (NdefX.clo_cm S.free q), fun p hp => ?_⟩
      have w : p = _ := List.mem_singleton.mp (show p ∈ [_] from by rw [← List.append_nil [_]]; exact hp)
      subst w
      exact fun w => absurd (flt b hb) (by rw [← w]; show ¬ h'.objs.size < h3.objs.size; omega)
    · refine T.keep _ _ _ t2 fun b hb o z => keep5 _ b o (keep3 b o (fne b hb) z)
    · exact I3.call' (ch := fp) J'.os J'.base J'.hok J'.bare fun b hb => ⟨(f3 b hb).2.2.2.1, (f3 b hb).2.1, (f3 b hb).2.2.2.2.1, (f3 b hb).2.2.2.2.2⟩
  refine ⟨I2.nolimit, ?_⟩
  cases hf : codeAmong gpos ps.toList with
  | none =>
    refine wpAny_genexprCodeX hcode (cd.code hPs ht) (cd.tab hPs) hf fun c' h' tk hx hge hlt hco' _ htab' _ => ?_
    obtain ⟨o1, vs, f1, tf, fl, tg, inF, tx, tt, op, _, _, _, _, _, _, _, _, _, htr, _⟩ := hco'
    exact cont _ h' tk _ hx (Nat.le_trans hge (Nat.le_of_lt hlt)) htab'.2 htr
  | some cv =>
    refine wpAny_genexprCode_hit hcode (cd.code hPs ht) hf ?_
    exact cont cv s2.heap s2.toks #[] (Heap.ExtBut.refl _ _) (Nat.le_refl _) (by rw [Array.append_empty]; exact hPs) (by rw [Array.append_empty]; exact ht)
end
end VD

set_option Elab.async false
set_option linter.all false
set_option maxRecDepth 100000
set_option maxHeartbeats 4000000
namespace VD
open PySem L2

section
variable {Y : Cx} {x : Str} {elt iter : Expr} {px pos : Pos} {scope : Scope} {J : It} {fp : List Addr} {it : Addr} {tn : Nat → Heap → Prop} {n : Nat} {tr : Nat → Bool} {W : Nat → L2.St → Hp → Prop} {g : TG} {te : TE}
theorem all_called {A : Around} {a : Addr} {gi : Nat} {s : Shared} {Q : Value → Shared → Prop} {E : Value → Shared → Prop} (hh : A.handled = none) (hroom : A.depth < recursionLimit) (pin : ∃ o : Obj, (a, o) ∈ Y.pn)
    (h : GA Y A.in1.in1 fp tn W n tr a gi 0 s) (out : ∀ j s1, j ≤ n → GO Y W j s1 → Q (.bool ((List.range n).all tr)) s1) : wpAny (model Y.prog Y.w) A (call (.builtin "all") [.ref a]) Q E s := by
  refine call_function_tree F.kind_all F.plain_all F.entry_all (F.args_all1 (Value.ref a)) ?_
  unfold Builtin.«all»
  refine wpAny_bind (m := oneArg "all" _) (wpAny_pure (wpAny_bind (wpAny_pyIter_gen h.2.2.1 ?_)))
  exact wpAny_pure ⟨plainId_quiet (id := "all.loop") F.plain_all_loop _, all_turns hh hroom pin n 0 s (Nat.add_zero n) h fun j s1 hj q => out j s1 hj q⟩
theorem any_called {A : Around} {a : Addr} {gi : Nat} {s : Shared} {Q : Value → Shared → Prop} {E : Value → Shared → Prop} (hh : A.handled = none) (hroom : A.depth < recursionLimit) (pin : ∃ o : Obj, (a, o) ∈ Y.pn)
    (h : GA Y A.in1.in1 fp tn W n tr a gi 0 s) (out : ∀ j s1, j ≤ n → GO Y W j s1 → Q (.bool ((List.range n).any tr)) s1) : wpAny (model Y.prog Y.w) A (call (.builtin "any") [.ref a]) Q E s := by
  refine call_function_tree F.kind_any F.plain_any F.entry_any (F.args_any1 (Value.ref a)) ?_
  unfold Builtin.«any»
  refine wpAny_bind (m := oneArg "any" _) (wpAny_pure (wpAny_bind (wpAny_pyIter_gen h.2.2.1 ?_)))
  exact wpAny_pure ⟨plainId_quiet (id := "any.loop") F.plain_any_loop _, any_turns hh hroom pin n 0 s (Nat.add_zero n) h fun j s1 hj q => out j s1 hj q⟩
end

/-! ### at data -/
def datS : Option (Option S) → Option S
  | some (some (.d x)) => some (.d x)
  | _ => none
theorem datS_some {o : Option (Option S)} {w : S} (h : datS o = some w) : ∃ y, w = .d y ∧ o = some (some (.d y)) := by
  unfold datS at h
  split at h
  · cases h
    exact ⟨_, rfl, rfl⟩
  · cases h
def capE (cs : List (Str × Nat)) (e : En) : En := none :: cs.map fun p => datS e[p.2]?
theorem good_cap {pn : Pw} {K : PySem.W.Frag} {H0 H : Hp} {e : En} {n : Nat} {σ : L2.St} (g : Good pn K H0 e n σ H) (cs : List (Str × Nat)) : Good pn K H (capE cs e) n (capS cs σ) H := by
  have key : ∀ (i : Nat) w, (capE cs e)[i]? = some (some w) → ∃ j y v, w = .d y ∧ (capS cs σ)[i]? = some (some v) ∧ σ[j]? = some (some v) ∧ Rep pn K H v y := fun i w h => by
    cases i with
    | zero => cases h
    | succ i =>
      have h : (cs.map fun p => datS e[p.2]?)[i]? = some (some w) := h
      rw [List.getElem?_map] at h
      cases q : cs[i]? with
      | none =>
        rw [q] at h
        cases h
      | some p =>
        rw [q] at h
        obtain ⟨y, rfl, hy⟩ := datS_some (Option.some.inj h)
        obtain ⟨v, h1, h2⟩ := g.dat p.2 y hy
        refine ⟨p.2, y, v, rfl, ?_, h1, h2⟩
        show (cs.map fun p : Str × Nat => σ[p.2]?.getD none)[i]? = some (some v)
        rw [List.getElem?_map, q]
        show some (σ[p.2]?.getD none) = _
        rw [h1]
        rfl
  refine ⟨?_, fun i y h => ?_, fun i l h => ?_, fun i j l m a _ h => ?_, Xt.refl _ _, g.pen⟩
  · unfold capE capS
    simp
  · obtain ⟨j, y', v, h1, h2, _, h4⟩ := key i _ h
    cases h1
    exact ⟨v, h2, h4⟩
  · obtain ⟨j, y', v, h1, _⟩ := key i _ h
    cases h1
  · obtain ⟨j, y', v, h1, _⟩ := key i _ h
    cases h1
theorem tabbed_ok {pn : Pw} {K : PySem.W.Frag} {H1 H2 : Hp} {n : Nat} {P : Addr} (p : PenOk pn K H1 n) (hP : P ∈ pn.tabs) (t : GxR.Tabbed P H1 H2) : Xt pn H1 H2 ∧ PenOk pn K H2 n := by
  have gr : Gr H1 H2 := fun a o h f => by
    refine (t.2 a fun z => ?_).trans h
    obtain ⟨ps, h1, _⟩ := p.2 P hP
    rw [z, h1] at h
    cases h
    exact f
  refine ⟨fun a o h no => (t.2 a fun z => no (.inr (by rw [z]; exact hP))).trans h, ?_, fun P' hP' => ?_⟩
  · obtain ⟨pe, ns, tb⟩ := pn
    cases pe with
    | none => trivial
    | some q =>
      obtain ⟨c, k, j, h1, h2, h3, h4, h5⟩ := p.1
      refine ⟨c, k, j, (t.2 q fun z => ?_).trans h1, h2.gr gr, h3, h4, h5⟩
      obtain ⟨ps, h6, _⟩ := p.2 P hP
      rw [z, h6] at h1
      cases h1
  · by_cases z : P' = P
    · rw [z]
      exact t.1
    · obtain ⟨ps, h1, h2⟩ := p.2 P' hP'
      exact ⟨ps, (t.2 P' z).trans h1, h2⟩
theorem ItD.gr {pn : Pw} {K : PySem.W.Frag} {J : It} {l : List D} {H1 H2 : Hp} (i : ItD pn K J l H1) (g : Gr H1 H2) : ItD pn K J l H2 :=
  ⟨fun H j r => i.go H j (g.trans r), fun H j x H' r => i.yl H j x H' (g.trans r), fun H r => i.st H (g.trans r)⟩
def trD (p : D → Bool) (l : List D) (i : Nat) : Bool := match l[i]? with
  | some y => p y
  | none => false
theorem trD_at {p : D → Bool} {l : List D} {i : Nat} {y : D} (h : l[i]? = some y) : trD p l i = p y := by
  unfold trD
  rw [h]
theorem trD_list (p : D → Bool) (l : List D) : (List.range l.length).map (trD p l) = l.map p := by
  refine List.ext_getElem (by simp) fun i h1 h2 => ?_
  rw [List.getElem_map, List.getElem_map, List.getElem_range]
  exact trD_at (List.getElem?_eq_getElem (by simpa using h2))
theorem trD_all (p : D → Bool) (l : List D) : (List.range l.length).all (trD p l) = l.all p := by
  have h := congrArg (fun z : List Bool => z.all fun b => b) (trD_list p l)
  simpa [List.all_map, Function.comp_def] using h
theorem trD_any (p : D → Bool) (l : List D) : (List.range l.length).any (trD p l) = l.any p := by
  have h := congrArg (fun z : List Bool => z.any fun b => b) (trD_list p l)
  simpa [List.any_map, Function.comp_def] using h
/-- all(..), any(..) of a generator expression whose element is a bool and does not touch the pen -/
def dGen (f : List D → (D → Bool) → Bool) (cs : List (Str × Nat)) (ti : TID) (te : TD) : TD := fun e n Q => ti e n fun l m => ∃ p : D → Bool, (∀ y ∈ l, te ((capE cs e).set 0 (some (.d y))) m fun v m' => v = .bl (p y) ∧ m' = m) ∧ Q (.bl (f l p)) m
def WD (pn : Pw) (K : PySem.W.Frag) (H2 : Hp) (E : En) (m len : Nat) (i : Nat) (σ : L2.St) (H : Hp) : Prop := i ≤ len ∧ ∃ z, Good pn K H2 (E.set 0 z) m σ H
section
variable {X : Cx} {pn : Pw} {H0 : Hp} {x : Str} {scope : Scope} {cs : List (Str × Nat)} {elt iter : Expr} {px gpos p pos : Pos} {c P : Addr} {ti : TID} {te : TD} {k : Nat}
theorem turns_d {Y : Cx} {J : It} {l : List D} {H2 : Hp} {en : En} {m : Nat} {q : D → Bool} (hK : Y.K = X.K) (gp : Good pn X.K H2 (capE cs en) m (capS cs σ) H2) (i : ItD pn X.K J l H2) (h : ∀ y ∈ l, te ((capE cs en).set 0 (some (.d y))) m fun v m' => v = .bl (q y) ∧ m' = m) :
    Turns J l.length (trD q l) (WD pn X.K H2 (capE cs en) m l.length) (upG pn H2 X.K [0] (gNm 0)) (up pn H2 X.K .m te) := fun j σ1 H1 ⟨hj, z, g1⟩ => by
  have gr : Gr H2 H1 := g1.stay.gr gp.pen
  by_cases lt : j < l.length
  · refine .inr ⟨lt, i.go H1 j gr lt, fun y H3 yl => ?_⟩
    obtain ⟨d, hd, rd, hy⟩ := i.yl H1 j y H3 gr lt yl
    obtain ⟨g3, _⟩ := g1.yld hy
    refine ⟨_, m, d, _, g3, rd, rfl, fun σ2 g2 _ => ?_⟩
    rw [List.set_set] at g2
    refine ⟨_, m, _, g2, h d (List.mem_of_getElem? hd), fun v H4 y4 n4 g4 x4 r4 e4 => ?_⟩
    obtain ⟨e5, e6⟩ := e4
    subst e5 e6
    cases r4
    exact ⟨by rw [trD_at hd], lt, _, g4⟩
  · have e : j = l.length := by omega
    exact .inl ⟨e, by rw [e]; exact i.st H1 gr⟩
theorem room_gen {it : Addr} {e : Env} (hr : Room (k + 1) X.A) : Room k (gAr X (gLoop elt iter x px gpos scope it e)) := by
  refine ⟨hr.hd, ?_, ?_⟩
  · have h := hr.dp
    show X.A.depth + 0 + 1 + 3 * k + 5 < _
    omega
  · have h := hr.un
    show X.A.units + 1 + 1 + 0 + 3 + 16 * k + 200 < _
    omega
theorem guards_gen {it : Addr} {e : Env} (h : X.A.guards = some []) : (gAr X (gLoop elt iter x px gpos scope it e)).guards = some [] := by
  unfold gAr Around.over
  show pushGuards [] (pushGuards [] X.A.guards) = _
  rw [h]
  rfl
theorem pd_all (hr : Room (k + 1) X.A) (hG : X.A.guards = some []) (hg : Gl X "all") (hm : X.mg "all" = none) (hb : bootBuiltins "all" = some (.builtin "all")) (hP : P ∈ pn.tabs) (TB : GxR.TabB X.base X.mg c P) (hcode : X.env.code = .ref c) (S : GxR.GenS X.env scope x) (C : Caps X scope cs)
    (hi : PID X pn H0 (.Name x px) iter ti) (hN : (x :: cs.map (·.1)).Nodup) (hel : ∀ code it pl fp s H, Room k (gCx X elt iter x px gpos scope cs code it pl fp s H).A → (gCx X elt iter x px gpos scope cs code it pl fp s H).A.guards = some [] → PD (gCx X elt iter x px gpos scope cs code it pl fp s H) pn H .m elt te)
    (hs : ∀ v, genFold iter X.env v = pure v := by intro _; rfl) (he : starEach [.GeneratorExp elt [⟨.Name x px, iter, [], 0⟩] scope gpos] X.env = (false, eval (.GeneratorExp elt [⟨.Name x px, iter, [], 0⟩] scope gpos) X.env) :: starEach [] X.env := by rfl) :
    PD X pn H0 .m (.Call (.Name "all" p) [.GeneratorExp elt [⟨.Name x px, iter, [], 0⟩] scope gpos] [] pos) (dGen List.all cs ti te) := by
  refine ⟨fun pins s σ H Q I ⟨en, n, Qd, g, ht, q⟩ => ?_⟩
  refine wpAny_Call_Name_kw (ld_blt I hg hm hb (PyProof.Rows.callWith_builtin1 ?_ he (by rfl)))
  rw [he]
  show wpAny _ _ (spliced ((false, eval (.GeneratorExp elt [⟨.Name x px, iter, [], 0⟩] scope gpos) X.env) :: backTo pos (starEach [] X.env))) _ _ s
  have hroom : X.A.depth < recursionLimit := hr.depth
  refine PySem.Calls.spliced_cons (gen_made (R := fun J H1 => ∃ l m, Good pn X.K H0 en m σ H1 ∧ Xt pn H H1 ∧ ItD pn X.K J l H1 ∧ ∃ p : D → Bool, (∀ y ∈ l, te ((capE cs en).set 0 (some (.d y))) m fun v m' => v = .bl (p y) ∧ m' = m) ∧ Qd (.bl (List.all l p)) m)
    hr.hd hroom I.ok.frames TB hcode S C hi hs I ⟨en, n, _, g, ht, fun J H1 l m g1 x1 it w => ⟨g1.pen.2 P hP, l, m, g1, x1, it, w⟩⟩ fun J H1 H2 Y it fp tn a gi s5 ⟨l, m, g1, x1, itd, p, hp, qd⟩ hT M => PySem.Calls.spliced_nil ?_)
  obtain ⟨x2, p2⟩ := tabbed_ok g1.pen hP hT
  have g2 := g1.xt x2 p2
  have gc := good_cap g2 cs
  obtain ⟨code, pl, s4, rfl⟩ := M.cx
  have rk : Room k (gCx X elt iter x px gpos scope cs code it pl fp s4 H2).A := room_gen hr
  have hE := hel code it pl fp s4 H2 rk (guards_gen hG)
  have hT2 : PG (gCx X elt iter x px gpos scope cs code it pl fp s4 H2) (.Name x px) (upG pn H2 X.K [0] (gNm 0)) := pgd_nm 0 hN rfl (.inl S.loc) (.inr S.loc)
  have tu := turns_d (Y := gCx X elt iter x px gpos scope cs code it pl fp s4 H2) rfl gc (itd.gr (x2.gr g1.pen)) hp
  have start : GI (gCx X elt iter x px gpos scope cs code it pl fp s4 H2) fp tn (WD pn X.K H2 (capE cs en) m l.length) 0 s5 := ⟨_, H2, M.inv, M.tn0, M.fpN, Nat.zero_le _, none, gc⟩
  refine all_called (Y := gCx X elt iter x px gpos scope cs code it pl fp s4 H2) (W := WD pn X.K H2 (capE cs en) m l.length) (n := l.length) (tr := trD p l) hr.hd hroom M.pn
    ⟨Nat.zero_le _, start, M.isG, _, M.gs, fun s' e1 e2 e3 => ⟨rfl, gen_start rfl rfl rfl S.co M.turn M.stat hT2 hE tu (start.gens e1 e2 e3)⟩⟩ fun j s1 hj ⟨σ1, H3, I3, _, z, g3⟩ => ?_
  have g4 := g2.xt g3.stay g3.pen
  rw [trD_all]
  exact ⟨.bl (l.all p), H3, M.out _ _ _ I3, rfl, q _ H3 _ m g4 ((x1.trans x2).trans g3.stay) (.bl _) qd⟩
theorem pd_any (hr : Room (k + 1) X.A) (hG : X.A.guards = some []) (hg : Gl X "any") (hm : X.mg "any" = none) (hb : bootBuiltins "any" = some (.builtin "any")) (hP : P ∈ pn.tabs) (TB : GxR.TabB X.base X.mg c P) (hcode : X.env.code = .ref c) (S : GxR.GenS X.env scope x) (C : Caps X scope cs)
    (hi : PID X pn H0 (.Name x px) iter ti) (hN : (x :: cs.map (·.1)).Nodup) (hel : ∀ code it pl fp s H, Room k (gCx X elt iter x px gpos scope cs code it pl fp s H).A → (gCx X elt iter x px gpos scope cs code it pl fp s H).A.guards = some [] → PD (gCx X elt iter x px gpos scope cs code it pl fp s H) pn H .m elt te)
    (hs : ∀ v, genFold iter X.env v = pure v := by intro _; rfl) (he : starEach [.GeneratorExp elt [⟨.Name x px, iter, [], 0⟩] scope gpos] X.env = (false, eval (.GeneratorExp elt [⟨.Name x px, iter, [], 0⟩] scope gpos) X.env) :: starEach [] X.env := by rfl) :
    PD X pn H0 .m (.Call (.Name "any" p) [.GeneratorExp elt [⟨.Name x px, iter, [], 0⟩] scope gpos] [] pos) (dGen List.any cs ti te) := by
  refine ⟨fun pins s σ H Q I ⟨en, n, Qd, g, ht, q⟩ => ?_⟩
  refine wpAny_Call_Name_kw (ld_blt I hg hm hb (PyProof.Rows.callWith_builtin1 ?_ he (by rfl)))
  rw [he]
  show wpAny _ _ (spliced ((false, eval (.GeneratorExp elt [⟨.Name x px, iter, [], 0⟩] scope gpos) X.env) :: backTo pos (starEach [] X.env))) _ _ s
  have hroom : X.A.depth < recursionLimit := hr.depth
  refine PySem.Calls.spliced_cons (gen_made (R := fun J H1 => ∃ l m, Good pn X.K H0 en m σ H1 ∧ Xt pn H H1 ∧ ItD pn X.K J l H1 ∧ ∃ p : D → Bool, (∀ y ∈ l, te ((capE cs en).set 0 (some (.d y))) m fun v m' => v = .bl (p y) ∧ m' = m) ∧ Qd (.bl (List.any l p)) m)
    hr.hd hroom I.ok.frames TB hcode S C hi hs I ⟨en, n, _, g, ht, fun J H1 l m g1 x1 it w => ⟨g1.pen.2 P hP, l, m, g1, x1, it, w⟩⟩ fun J H1 H2 Y it fp tn a gi s5 ⟨l, m, g1, x1, itd, p, hp, qd⟩ hT M => PySem.Calls.spliced_nil ?_)
  obtain ⟨x2, p2⟩ := tabbed_ok g1.pen hP hT
  have g2 := g1.xt x2 p2
  have gc := good_cap g2 cs
  obtain ⟨code, pl, s4, rfl⟩ := M.cx
  have rk : Room k (gCx X elt iter x px gpos scope cs code it pl fp s4 H2).A := room_gen hr
  have hE := hel code it pl fp s4 H2 rk (guards_gen hG)
  have hT2 : PG (gCx X elt iter x px gpos scope cs code it pl fp s4 H2) (.Name x px) (upG pn H2 X.K [0] (gNm 0)) := pgd_nm 0 hN rfl (.inl S.loc) (.inr S.loc)
  have tu := turns_d (Y := gCx X elt iter x px gpos scope cs code it pl fp s4 H2) rfl gc (itd.gr (x2.gr g1.pen)) hp
  have start : GI (gCx X elt iter x px gpos scope cs code it pl fp s4 H2) fp tn (WD pn X.K H2 (capE cs en) m l.length) 0 s5 := ⟨_, H2, M.inv, M.tn0, M.fpN, Nat.zero_le _, none, gc⟩
  refine any_called (Y := gCx X elt iter x px gpos scope cs code it pl fp s4 H2) (W := WD pn X.K H2 (capE cs en) m l.length) (n := l.length) (tr := trD p l) hr.hd hroom M.pn
    ⟨Nat.zero_le _, start, M.isG, _, M.gs, fun s' e1 e2 e3 => ⟨rfl, gen_start rfl rfl rfl S.co M.turn M.stat hT2 hE tu (start.gens e1 e2 e3)⟩⟩ fun j s1 hj ⟨σ1, H3, I3, _, z, g3⟩ => ?_
  have g4 := g2.xt g3.stay g3.pen
  rw [trD_any]
  exact ⟨.bl (l.any p), H3, M.out _ _ _ I3, rfl, q _ H3 _ m g4 ((x1.trans x2).trans g3.stay) (.bl _) qd⟩
end
end VD

set_option Elab.async false
set_option linter.all false
set_option maxRecDepth 100000
set_option maxHeartbeats 4000000

/-! ### the class of an error that has a dict of its own -/
namespace VD
open PySem PySem.W PySem.Calls
section
variable {K : Frag} {e C : Addr} {oe : Obj} {od : Option Obj}
theorem class_found (T : L2.ExcC K C) (od : Option Obj) : findObj K C od "__class__" = some (.bind (.builtin "getset_descriptor.__get__") (.builtin "object.__class__")) := by
  obtain ⟨c, hc, _⟩ := any_some T.hd
  unfold findObj
  rw [hc, Option.bind_some, T.ha, Option.bind_some]
  simp [T.hn, T.ht]
theorem class_asked {prog : Program} {w : World} {A : Around} {F : Value → Shared → Prop} {Q : Option Value → Shared → Prop} {s : Shared} (T : L2.ExcC K C) (hK : K.In s.heap) (I : InstAt s.heap e oe C od) (q : Q (some (.ref C)) { s with toks := s.toks + 1 }) :
    wpAny (model prog w) A (getAttr? (.ref e) "__class__") Q F s := by
  obtain ⟨hp, gs, dr, tk, os⟩ := s
  have l0 := I.type (M := model prog w)
  have l1 := looks_findIn (M := model prog w) hK T.hg
  have l2 := looks_findIn (M := model prog w) hK T.hk
  have l3 := looks_find (M := model prog w) hK I (class_found T od)
  have lb : Looks (model prog w) hp (isInstance (.ref e) (.type "BaseException")) true := l0.andThen (looks_subIn hK T.hs)
  have n2 : (Value.builtin "BaseException.__getattribute__" == Value.builtin "object.__getattribute__") = false := by decide +kernel
  have n1 : (onTheHeap (Value.ref C) && Value.builtin "BaseException.__getattribute__" == Value.builtin "object.__getattribute__") = false := by rw [n2]; rfl
  have n0 : (false && onTheHeap (Value.builtin "BaseException.__getattribute__")) = false := rfl
  unfold getAttr? getAttrBy? getAttrBy
  refine wpAny_bind (wpAny_mkText (wpAny_bind (wpAny_attempt (wpAny_holding (wpAny_bind (l0.at (wpAny_bind (l1.at ?_))))))))
  show wpAny _ _ (if (onTheHeap (Value.ref C) && Value.builtin "BaseException.__getattribute__" == Value.builtin "object.__getattribute__") = true then _ else _) _ _ _
  rw [n1, if_neg Bool.false_ne_true]
  unfold getAttrByItsOwn hookBefore
  refine wpAny_bind (?_ : wpAny _ _ _ _ _ _)
  rw [if_pos (show onTheHeap (Value.ref C) = true from rfl)]
  refine l2.at (wpAny_bind (wpAny_attempt (wpAny_holding ?_)))
  unfold callGetattribute
  rw [n0, if_neg Bool.false_ne_true]
  unfold boundAndCalled
  rw [PySem.F.excAttr_ValueError.ga.bind (.ref e)]
  refine wpAny_bind (wpAny_pure (?_ : wpAny _ _ _ _ _ _))
  show wpAny _ _ (call (.builtin "BaseException.__getattribute__") [.ref e, .str "__class__" tk]) _ _ _
  refine wpAny_call (codeAny_call_builtin PySem.F.excAttr_ValueError.ga.plain PySem.F.entry_bexc_ga (?_ : wpAny _ _ _ _ _ _))
  refine @check_slot (model prog w) _ _ ⟨hp, gs, dr, tk + 1, os⟩ "BaseException.__getattribute__" "BaseException" "__getattribute__" (.ref e) [.str "__class__" tk] [] _ (by decide +kernel) (by decide +kernel) lb (PySem.F.args_bexc_ga (.ref e) (.str "__class__" tk)) ?_
  unfold Builtin.«object.__getattribute__»
  refine wpAny_bind (wpAny_of_eq (a := ((Value.ref e : Value), [Value.str "__class__" tk])) (by first | rfl | (simp only [slotArgs]; rfl)) (?_ : wpAny _ _ _ _ _ _))
  refine wpAny_bind (wpAny_pure (wpAny_bind (l0.at (wpAny_bind (l3.at (?_ : wpAny _ _ _ _ _ _))))))
  show wpAny _ _ (holding [Value.builtin "object.__class__"] (call (.builtin "getset_descriptor.__get__") [.builtin "object.__class__", .ref e, .ref C]) >>= ret) _ _ _
  refine wpAny_bind (wpAny_holding (wpAny_call (class_get (s := ⟨hp, gs, dr, tk + 1, os⟩) (ox := oe) (od := od) hK I T.hm (wpAny_pure ?_))))
  show wpAny _ _ (handedOut (.ref C)) _ _ _
  rw [handedOut_of (v := Value.ref C) rfl]
  first
    | exact wpAny_pure (wpAny_pure q)
    | exact wpAny_pure q
    | exact wpAny_pure (wpAny_bind (wpAny_pure (wpAny_pure q)))
theorem kit_exc (T : L2.ExcC K C) : KitX K (.ref e) (.ref C) (fun h => ∃ oe od, InstAt h e oe C od) where
  ty := fun _ _ _ ⟨_, _, I⟩ => I.type
  it := fun M h X _ => by
    obtain ⟨c, hc, _⟩ := any_some T.hd
    unfold clsIn at hc
    split at hc
    · rename_i ho
      intro A' Q' F' s' k q
      unfold isType loadHead
      exact wpAny_bind (wpAny_loadPart (k _ _ (X _ _ ho)) (wpAny_pure q))
    · cases hc
  ne := (handS_kitx_exc (x := e) (ox := ⟨.none, none, .plain, #[]⟩) T.hg T.hk T.hs T.hd T.ha T.hn T.ht T.hm).ne
  ca := fun X ⟨_, _, I⟩ k => class_asked T X I k
end
end VD

/-! ### errors as data -/
namespace VD
open PySem L2
theorem ExAt.found {X : Cx} {pins : List (Addr × Obj)} {σ : L2.St} {H : Hp} {s : Shared} {a C : Addr} {d : Option Addr} (I : Inv X pins σ H s) (h : ExAt H a C d) : ∃ oe vs, s.heap.get? a = some oe ∧ Zc (.ref C) d oe ∧ oe.data = .fields vs := by
  obtain ⟨φ, e, w⟩ := h
  exact w s.heap (I.hok a _ e).1
theorem XdAt.found {X : Cx} {pins : List (Addr × Obj)} {σ : L2.St} {H : Hp} {s : Shared} {d : Addr} {fs : List (Str × V)} (I : Inv X pins σ H s) (h : XdAt H d fs) : ∃ mA, s.heap.Ns1 d mA ∧ ∀ f, RelO (fs.lookup f) (mA f) := by
  rcases h with h | ⟨φ, e, w⟩
  · exact I.hok d _ h
  · exact w s.heap (I.hok d _ e).1
/-- the object, as the class rules want it -/
theorem inst_of {X : Cx} {pins : List (Addr × Obj)} {σ : L2.St} {H : Hp} {s : Shared} {pn : Pw} {v : V} {C : Addr} {fl : Str} {k : List D} (I : Inv X pins σ H s) (r : Rep pn X.K H v (.exc C fl k)) : ∃ a oe od, v = .ref a ∧ PySem.W.InstAt s.heap a oe C od := by
  cases r with
  | exc0 h =>
    obtain ⟨oe, vs, h1, h2, h3⟩ := h.found I
    exact ⟨_, oe, none, rfl, h1, h2.1, by unfold PySem.W.notCls; rw [h3] <;> rfl, by rw [h2.2]; trivial⟩
  | exc1 h hx _ =>
    obtain ⟨oe, vs, h1, h2, h3⟩ := h.found I
    obtain ⟨mA, hn, _⟩ := hx.found I
    obtain ⟨o2, ho, _⟩ := lookIn_ns hn
    exact ⟨_, oe, some o2, rfl, h1, h2.1, by unfold PySem.W.notCls; rw [h3] <;> rfl, by rw [h2.2]; exact ho⟩
/-- isinstance(an error, a class) -/
def rIsX (K : PySem.W.Frag) (pn : Pw) : List V → Hp → VK → Prop := fun xs H Q => ∃ (v c : V) (cv : Value) (C : Addr) (fl : Str) (k : List D) (b : Bool), xs = [v, c] ∧ Rep pn K H v (.exc C fl k) ∧ ExcC K C ∧ (∀ u, RelV c u → u = cv) ∧ PySem.W.kitOne K (.ref C) cv = some b ∧ Q (.bl b) H
theorem call_isX {X : Cx} {pn : Pw} : CallR X (.builtin "isinstance") (rIsX X.K pn) := by
  intro pins s σ H xs us Q I r ⟨v, c, cv, C, fl, k, b, ex, rp, T, hc, e, q⟩
  subst ex
  obtain ⟨u1, u2, rfl, r1, r2⟩ := vals2 r
  obtain ⟨a, oe, od, rfl, J⟩ := inst_of I rp
  cases r1
  rw [hc _ r2]
  exact PySem.W.kia_one (kit_exc T) I.kIn ⟨oe, od, J⟩ e (fun z => nomatch z) fun tk => ⟨.bl b, H, I.kept (t' := tk) fun _ _ z => z, rfl, q⟩
section
variable {X : Cx} {pn : Pw} {H0 : Hp} {a : Expr} {ta : TD} {pos : Pos}
def dIsX (K : PySem.W.Frag) (cv : Value) (t : TD) : TD := fun e n Q => t e n fun x m => ∃ C fl k b, x = .exc C fl k ∧ ExcC K C ∧ PySem.W.kitOne K (.ref C) cv = some b ∧ Q (.bl b) m
/-- isinstance(e, C), C an own class -/
theorem pd_isX {D : Addr} {y : Str} {p p2 : Pos} (hm : X.mg "isinstance" = none) (hg : Gl X "isinstance") (hg2 : Gl X y) (hm2 : X.mg y = some (.ref D)) (ha : PD X pn H0 .m a ta) (hdb2 : (y == ("__debug__" : Str)) = false := by decide)
    (he : starEach (a :: (.Name y p2) :: []) X.env = (false, eval a X.env) :: starEach ((.Name y p2) :: []) X.env := by rfl) (he2 : starEach ((.Name y p2) :: []) X.env = (false, eval (.Name y p2) X.env) :: starEach [] X.env := by rfl)
    (hpl : (backTo pos (starEach ((.Name y p2) :: []) X.env)).any (·.1) = false := by rfl) : PD X pn H0 .m (.Call (.Name "isinstance" p) [a, .Name y p2] [] pos) (dIsX X.K (.ref D) ta) :=
  pe_wk (pe_callB (call_isX (pn := pn)) hg hm (by decide +kernel) (pa_cons ha (pa_cons (pe_glob (v := .ref D) hg2 hm2 rfl hdb2) pa_nil he2) he) (by decide) (by decide) he hpl) fun σ H Q ⟨en, n, Qd, g, ht, q⟩ => ⟨en, n, _, g, ht, fun v H1 z n1 g1 x1 r1 ⟨C, fl, k, b, ez, T, e, w⟩ => by
    subst ez
    exact ⟨v, .ref D, .ref D, C, fl, k, b, rfl, r1, T, fun u r => r, e, q _ H1 _ n1 g1 x1 (.bl b) w⟩⟩
/-- isinstance(e, T), T a builtin class -/
theorem pd_isXb {T : String} {y : Str} {p p2 : Pos} (hm : X.mg "isinstance" = none) (hg : Gl X "isinstance") (hg2 : Gl X y) (hm2 : X.mg y = none) (hT : bootBuiltins y = some (.type T)) (ha : PD X pn H0 .m a ta) (hn2 : y ≠ "__name__" := by decide) (hdb2 : (y == ("__debug__" : Str)) = false := by decide)
    (he : starEach (a :: (.Name y p2) :: []) X.env = (false, eval a X.env) :: starEach ((.Name y p2) :: []) X.env := by rfl) (he2 : starEach ((.Name y p2) :: []) X.env = (false, eval (.Name y p2) X.env) :: starEach [] X.env := by rfl)
    (hpl : (backTo pos (starEach ((.Name y p2) :: []) X.env)).any (·.1) = false := by rfl) : PD X pn H0 .m (.Call (.Name "isinstance" p) [a, .Name y p2] [] pos) (dIsX X.K (.type T) ta) :=
  pe_wk (pe_callB (call_isX (pn := pn)) hg hm (by decide +kernel) (pa_cons ha (pa_cons (pe_bltn (v := .ty T) hg2 hm2 hT rfl hn2 hdb2) pa_nil he2) he) (by decide) (by decide) he hpl) fun σ H Q ⟨en, n, Qd, g, ht, q⟩ => ⟨en, n, _, g, ht, fun v H1 z n1 g1 x1 r1 ⟨C, fl, k, b, ez, T', e, w⟩ => by
    subst ez
    exact ⟨v, .ty T, .type T, C, fl, k, b, rfl, r1, T', fun u r => r, e, q _ H1 _ n1 g1 x1 (.bl b) w⟩⟩
/-- e.f of an error -/
def dXat (K : PySem.W.Frag) (f : Str) (t : TD) : TD := fun e n Q => t e n fun x m => ∃ C y, x = .exc C f [y] ∧ XfC K C ∧ PySem.W.findIn K (.ref C) f = some none ∧ Q y m
theorem pd_xat {f : Str} (ha : PD X pn H0 .m a ta) (hb : attributeBase a f X.env (eval a X.env) = eval a X.env := by rfl) : PD X pn H0 .m (.Attribute a f pos) (dXat X.K f ta) := by
  refine ⟨fun pins s σ H Q I ⟨en, n, Qd, g, ht, q⟩ => ?_⟩
  refine attr_of hb (thn (ha.run pins s σ H (fun v H1 => ∃ C y n1, Good pn X.K H0 en n1 σ H1 ∧ Xt pn H H1 ∧ Rep pn X.K H1 v (.exc C f [y]) ∧ XfC X.K C ∧ PySem.W.findIn X.K (.ref C) f = some none ∧ Qd y n1) I ⟨en, n, _, g, ht, fun v H1 z n1 g1 x1 r1 ⟨C, y, ez, T, hno, w⟩ => by
    subst ez
    exact ⟨C, y, n1, g1, x1, r1, T, hno, w⟩⟩) fun u s1 ⟨v, H1, I1, r1, C, y, n1, g1, x1, rp, T, hno, w⟩ => ?_)
  cases rp with
  | @exc1 b _ d _ v1 _ h hx ry =>
    cases r1
    obtain ⟨oe, vs, e1, e2, e3⟩ := h.found I1
    obtain ⟨mA, hn, hr⟩ := hx.found I1
    obtain ⟨o2, ho, hl⟩ := lookIn_ns hn
    have hlk : ([(f, v1)] : List (Str × V)).lookup f = some v1 := by simp
    obtain ⟨u1, hu, ru⟩ := RelO.some_of (v := v1) (o := mA f) (by rw [← hlk]; exact hr f)
    have J : PySem.W.InstAt s1.heap b oe C (some o2) := ⟨e1, e2.1, by unfold PySem.W.notCls; rw [e3] <;> rfl, by rw [e2.2]; exact ho⟩
    exact PySem.HandSPX.exc_get I1.kIn J T.ga T.gg T.exC (PySem.W.findObj_own T.hdC hno rfl (by rw [hl, hu])) (handed_of ru) ⟨v1, H1, I1.tok _, ru, q v1 H1 y n1 g1 x1 ry w⟩
end
end VD

set_option Elab.async false
set_option linter.all false
set_option maxRecDepth 100000
set_option maxHeartbeats 4000000
namespace VD
open PySem L2

/-! ### an error class's own __init__ -/
/-- it keeps its argument in the field fl -/
def spI (C : Addr) (fl : Str) : Sp := fun vs H Q _ => ∃ a v, vs = [.ref a, v] ∧ H a = some (exo a C none) ∧ ∀ dx, H dx = none → dx ≠ a → Q .non (upd (upd H dx (exd dx [(fl, v)])) a (exo a C (some dx)))
section
variable {X : Cx} {e : Expr} {es : List Expr} {ta : TA} {p1 p2 pos : Pos}
/-- B.__init__(self, ..), B an own class that takes ValueError's -/
theorem pe_baseinit {pl : Sem Bool} {D : Addr} {y : Str} {mc : Value} (hg : Gl X y) (hm : X.mg y = some (.ref D)) (r : ClX.CRead X.K D mc) (vi : PySem.W.findCls X.K (.ref D) mc "__init__" = some (.val (.builtin "ValueError.__init__"))) (ha : PA X (e :: es) ta)
    (hc : eval (.Call (.Attribute (.Name y p1) "__init__" p2) (e :: es) [] pos) X.env = (do
      let ov ← eval (.Name y p1) X.env
      standAt p2.atName
      let (f, first) ← holding [ov] (getMethod ov "__init__" pl)
      callWith pos f first (backTo pos (starEach (e :: es) X.env)) (backToKw pos (keywordEach [] X.env))) := by rfl)
    (hd : (y == ("__debug__" : Str)) = false := by decide) (he : starEach (e :: es) X.env = (false, eval e X.env) :: starEach es X.env := by rfl) (hpl : (backTo pos (starEach es X.env)).any (·.1) = false := by rfl) :
    PE X (.Call (.Attribute (.Name y p1) "__init__" p2) (e :: es) [] pos) (tVeI X.K ta) := by
  refine ⟨fun pins s σ H Q I h => ?_⟩
  refine PySem.W.methodCall_KW (ld_glob I hg hm (PySem.W.method_cls I.kIn r.ga (PySem.W.cls_value I.kIn r.rd vi rfl ?_)) hd) hc
  show wpAny _ _ (callWith pos (Value.builtin "ValueError.__init__") [] (backTo pos (starEach (e :: es) X.env)) []) _ _ _
  refine PyProof.Rows.callWith_method1 (thn (ha.run pos pins _ σ H _ (I.tok _) h) fun us s1 ⟨vs, H1, I1, r1, a, C, ws, ev, hl, T, ea, q⟩ => ?_) he hpl
  subst ev
  cases r1 with
  | @cons _ u0 _ ur ra rw' =>
    cases ra
    have hlen : ur.length ≤ sizeLine := by
      have z := Paired.length rw'
      rw [sizeLine_eq]
      omega
    exact oinit_ok T I1 ea hlen fun s2 J => ⟨.non, H1, J, rfl, q⟩
end
/-- its body's meaning -/
def tInit (K : PySem.W.Frag) (fl msg : Str) : TS := tSeq (tDrop (tVeI K (tCons (tVar 0) (tCons (tC (.str msg)) tNil)))) (tSeq (tOst K fl (tVar 0) (tVar 1)) tNext)
section
variable {P : Program} {w : World} {K : PySem.W.Frag} {mg : Str → Option Value} {base : Heap} {CX : CXT} {k : Nat} {f C : Addr} {fd : FuncData} {x ql a0 a1 fl msg : Str} {st : Stmt}
theorem ok_init (F : Fun K x ql st f fd) (S : FnScope [a0, a1] [a0, a1] (defScope st)) (T : OexC K C) (hno : PySem.W.findIn K (.ref C) fl = some none)
    (hb : ∀ (cdv : Value) (A : Around) (outer : List Env) (s : Shared) (H : Hp) (E : XK), PSs (cxOf CX P w K mg base [a0, a1] ql (defScope st) f cdv A outer s H E) (defBody st) (tInit K fl msg)) :
    FnG P w K mg base CX (k + 1) f fd [a0, a1] (spI C fl) :=
  Fun.okG F S (fun vs H Q E ⟨a, v, e, _⟩ => by rw [e]; rfl) fun cdv A outer s H vs Q E hr hg ⟨a, v, e, ea, q⟩ => by
    subst e
    exact ⟨_, hb cdv A outer s H E, .ref a, rfl, a, C, [.str msg], rfl, by show 1 ≤ 1000; omega, T, ea, v, rfl, .ref a, rfl, a, C, rfl, T, hno, .inl ⟨ea, fun dx n ne => q dx n ne⟩⟩
end

/-! ### an error as a value -/
section
variable {X : Cx} {pn : Pw} {H0 : Hp} {e : Expr} {t : TD} {x : Str} {p pos : Pos} {C : Addr}
def dExc0 (C : Addr) (t : TD) : TD := fun e n Q => t e n fun _ m => Q (.exc C "" []) m
def dExc1 (C : Addr) (fl : Str) (t : TD) : TD := fun e n Q => t e n fun y m => Q (.exc C fl [y]) m
theorem exAt_ExO {H : Hp} {a : Addr} : ExAt (upd H a (ExO (.ref C) a)) a C none := ⟨_, upd_same, fun h ⟨oe, vs, h1, h2, h3, _⟩ => ⟨oe, vs, h1, h2, h3⟩⟩
/-- C(e), C without an __init__ of its own -/
theorem pd_exc0 {bmB : List Value} {B newId initId : String} (F : ExcBaseFacts B newId initId bmB) (q : PySem.W.excIn X.K C bmB newId = true) (gC : X.mg x = some (.ref C)) (kC : PySem.W.keepIn X.K (.ref C) = true) (hg : Gl X x) (ha : PD X pn H0 .m e t)
    (hs : starEach [e] X.env = (false, eval e X.env) :: starEach [] X.env := by rfl) (hdb : (x == ("__debug__" : Str)) = false := by decide) : PD X pn H0 .m (.Call (.Name x p) [e] [] pos) (dExc0 C t) :=
  pe_wk (pe_exc1 F q gC kC hg ha hs hdb) fun σ H Q ⟨en, n, Qd, g, ht, q⟩ => ⟨en, n, _, g, ht, fun v H1 y n1 g1 x1 r1 w a hn =>
    q _ _ _ n1 (g1.new hn) (x1.trans (Xt.new hn)) (.exc0 exAt_ExO) w⟩
theorem under_make {A : Around} {us : List Value} (h : A.guards = some []) : (A.under (.builtin "type.__call__" ⟨.ref C :: us, []⟩)).guards = some [] := by
  obtain ⟨a, b, c, g, u⟩ := A
  dsimp only at h
  subst h
  rfl
/-- C(e), C with an __init__ of its own that keeps the argument -/
theorem pd_excI {k : Nat} {fI : Addr} {fd : FuncData} {ps : List Str} {fl : Str} (T : OexC X.K C) (iC : PySem.W.findIn X.K (.ref C) "__init__" = some (some (.ref fI))) (tI : PySem.W.typeIn X.K (.ref fI) = some (.type "function"))
    (F1 : FnG X.prog X.w X.K X.mg X.base CX0 k fI fd ps (spI C fl)) (hr : Room (k + 1) X.A) (hG : X.A.guards = some []) (hb : Binds X.K fd ps []) (hg : Gl X x) (hm : X.mg x = some (.ref C)) (ha : PD X pn H0 .m e t)
    (hs : starEach [e] X.env = (false, eval e X.env) :: starEach [] X.env := by rfl) (hdb : (x == ("__debug__" : Str)) = false := by decide) (hpl : (backTo pos (starEach [] X.env)).any (·.1) = false := by rfl) : PD X pn H0 .m (.Call (.Name x p) [e] [] pos) (dExc1 C fl t) := by
  refine ⟨fun pins s σ H Q I ⟨en, n, Qd, g, ht, q⟩ => ?_⟩
  obtain ⟨nm, qn, N, bs, bm, sn, sub, ab, col, dd, k0, k1, k2, k3, k5, hC, hbm⟩ := T.cls
  have pa : PA X [e] (tCons (up pn H0 X.K .m t) tNil) := pa_cons ha pa_nil hs
  refine wpAny_Call_Name_kw (ld_glob I hg hm ?_ hdb)
  refine PySem.W.callWith_K (h₀ := X.base) I.ok.mod.kin T.kC (thn (pa.run pos pins s σ H (fun vs H1 => ∃ v y n1, vs = [v] ∧ Good pn X.K H0 en n1 σ H1 ∧ Xt pn H H1 ∧ Rep pn X.K H1 v y ∧ Qd (.exc C fl [y]) n1) I ⟨en, n, _, g, ht, fun v H1 y n1 g1 x1 r1 w => ⟨v, y, n1, rfl, g1, x1, r1, w⟩⟩) fun us s1 ⟨vs, H1, I1, r1, v, y, n1, ev, g1, x1, ry, w⟩ => ⟨I1.kIn, ?_⟩) hs hpl
  subst ev
  show wpAny _ _ (call (.ref C) us) _ _ _
  obtain ⟨hp, gs, dr, tk, os⟩ := s1
  have lt : hp.objs.size ≤ hp.objs.size + 1 := Nat.le_succ _
  have hn : H1 (hp.objs.size + 1) = none := I1.hok.fresh lt
  have kk : ∀ b o, hp.get? b = some o → ((hp.push (PySem.W.kdv_tup us)).push (PySem.HandSPX.excO C hp.objs.size)).get? b = some o := fun b o z => Heap.get?_push_of_some _ (Heap.get?_push_of_some _ z)
  have got : ((hp.push (PySem.W.kdv_tup us)).push (PySem.HandSPX.excO C hp.objs.size)).get? (hp.objs.size + 1) = some (PySem.HandSPX.excO C hp.objs.size) := by heap_get
  have I2 : Inv X pins σ (upd H1 (hp.objs.size + 1) (exo (hp.objs.size + 1) C none)) ⟨(hp.push (PySem.W.kdv_tup us)).push (PySem.HandSPX.excO C hp.objs.size), gs, dr, tk, os⟩ :=
    I1.laid (t' := tk) (a := hp.objs.size + 1) (h' := (hp.push (PySem.W.kdv_tup us)).push (PySem.HandSPX.excO C hp.objs.size)) kk lt (exo_ok got)
  have r2 : Vals (V.ref (hp.objs.size + 1) :: [v]) (Value.ref (hp.objs.size + 1) :: us) := .cons rfl r1
  have sp : spI C fl (V.ref (hp.objs.size + 1) :: [v]) (upd H1 (hp.objs.size + 1) (exo (hp.objs.size + 1) C none)) (fun u H2 => u = .non ∧ ∃ dx, H1 dx = none ∧ dx ≠ hp.objs.size + 1 ∧ H2 = upd (upd (upd H1 (hp.objs.size + 1) (exo (hp.objs.size + 1) C none)) dx (exd dx [(fl, v)])) (hp.objs.size + 1) (exo (hp.objs.size + 1) C (some dx))) (fun _ _ _ => False) :=
    ⟨_, v, rfl, upd_same, fun dx hd ne => ⟨rfl, dx, by rw [upd_ne ne] at hd; exact hd, ne, rfl⟩⟩
  have hl : (Value.ref (hp.objs.size + 1) :: us).length = ps.length := by rw [← r2.length]; exact F1.len _ _ _ _ sp
  have hus : us.length ≤ sizeLine := by
    have z := Paired.length r1
    rw [sizeLine_eq]
    simp at z
    omega
  have bnd := hb ⟨(hp.push (PySem.W.kdv_tup us)).push (PySem.HandSPX.excO C hp.objs.size), gs, dr, tk, os⟩ (Value.ref (hp.objs.size + 1) :: us) I2.kIn (by rw [List.append_nil]; exact hl)
  rw [List.append_nil] at bnd
  refine wpAny_call (PySem.HandSPX.call_own F.excBase_ValueError (fun Y => PySem.HandSPX.refsVE_contains Y bm hbm) (I1.kIn _ _ hC) (PySem.W.looks_findIn I1.kIn iC) (fun self => PySem.W.bind_fn I1.kIn self tI) hus
    (codeAny_mono (F1.run _ X.stack _ _ ⟨Value.ref (hp.objs.size + 1) :: us, []⟩ (Value.ref (hp.objs.size + 1) :: us) _ _ (fun _ _ _ => False) (hr.make C us []) (under_make hG) (I2.env0.make C us []) bnd r2 sp) fun r s2 hq => ?_))
  cases r with
  | error er => exact False.elim hq
  | ok fr =>
    cases fr with
    | ret u =>
      obtain ⟨v2, H2, os2, bare2, un2, hok2, rv, ev, dx, hd, ne, rfl⟩ := hq
      subst ev
      refine ⟨rv, .ref (hp.objs.size + 1), _, I2.call' (ch := []) os2 un2 hok2 bare2 (fun b z => absurd z List.not_mem_nil), rfl, ?_⟩
      have x2 : Xt pn H1 (upd (upd (upd H1 (hp.objs.size + 1) (exo (hp.objs.size + 1) C none)) dx (exd dx [(fl, v)])) (hp.objs.size + 1) (exo (hp.objs.size + 1) C (some dx))) := fun b o z _ => by
        rw [upd_ne (ne_of_none z hn), upd_ne (ne_of_none z hd), upd_ne (ne_of_none z hn)]
        exact z
      have gr := x2.gr g1.pen
      have p2 : PenOk pn X.K _ n1 := g1.pen.xt gr fun b hb => by
        have nb : b ≠ hp.objs.size + 1 := fun z => g1.pen.ne hn (by rw [← z]; exact hb)
        have nd : b ≠ dx := fun z => g1.pen.ne hd (by rw [← z]; exact hb)
        rw [upd_ne nb, upd_ne nd, upd_ne nb]
      refine q _ _ _ n1 (g1.xt x2 p2) (x1.trans x2) (.exc1 (d := dx) (v := v) ?_ ?_ (ry.gr gr)) w
      · exact ⟨_, upd_same, fun h ⟨t1, z⟩ => ⟨_, _, z, ⟨rfl, rfl⟩, rfl⟩⟩
      · exact .inr ⟨_, by rw [upd_ne ne, upd_same]; rfl, fun h z => z⟩
    | next => exact False.elim hq
    | brk => exact False.elim hq
    | cont => exact False.elim hq
end
end VD

set_option Elab.async false
set_option linter.all false
set_option maxRecDepth 100000
set_option maxHeartbeats 4000000
namespace VD
open PySem L2

/-! ### l.count(x), l.index(x) -/
section
variable {X : Cx}
def rCountX (K : PySem.W.Frag) : V → List V → Hp → VK → Prop := fun x xs H Q => ∃ (a : Addr) (y : V) (d : PyData) (ds : List PyData), x = V.ref a ∧ xs = [y] ∧ Dp K H (V.ref a) (.list ds) ∧ Dp K H y d ∧
  SeqAt.shaped (.list ds) = true ∧ SeqAt.shaped d = true ∧ Q (.int ((ds.countP fun z => PyData.eqv z d : Nat))) H
theorem mt_countX (hu : X.A.units + 65 < cLine) : MtR X "list.count" (rCountX X.K) := by
  intro pins s σ H x xs v us Q I rx rxs ⟨a, y, d, ds, e1, e2, hl, hy, sl, sd, q⟩
  subst e1 e2
  cases rx
  cases rxs with
  | @cons _ uy _ ut ry rt =>
    cases rt
    obtain ⟨bs, r1⟩ := Dp.reads I d y uy hy ry
    have lay : PyData.canLayAll0 ds = true := SeqAt.canLay_of_shaped sl
    cases hl with
    | lst hs ha =>
      obtain ⟨its, rv, ⟨⟨cls, dd, data, sls⟩, n, ho, hc, hdn, hdt⟩, _⟩ := I.list hs
      dsimp only at hc hdt
      subst hc hdt
      obtain ⟨as, h4⟩ := Dp.readsAll I ds _ its ha rv
      have hmap : its.map (SeqAt.readOf s.heap) = ds := SeqAt.readsAll_map ds its as lay h4
      refine call_meets PySem.F.slot_list_count ⟨_, ho, rfl⟩ PySem.F.entry_list_count (PySem.F.args_list_count_2 (Value.ref a) uy)
        (SeqAt.list_countAt a its.toArray n dd sls uy fun u => PyData.eqv (SeqAt.readOf s.heap u) d) ⟨ho, SeqAt.items_eqAt (vs := its.toArray) (show ReadsAll s.heap its.toArray.toList ds as from h4) r1 lay (SeqAt.canLay_of_shaped sd) (PyProof.Rows.room_in_shaped sd hu), ?_⟩
      refine ⟨.int ((ds.countP fun z => PyData.eqv z d : Nat)), H, I.tok _, ⟨s.toks, ?_⟩, q⟩
      have e : its.countP (fun u => PyData.eqv (SeqAt.readOf s.heap u) d) = ds.countP fun z => PyData.eqv z d := by
        rw [← hmap, List.countP_map]
        rfl
      show Value.int _ _ = Value.int _ _
      rw [← e]
end
def fCnt : D → D → Option D
  | .lst l, y => match toP (.lst l), toP y with
    | some (.list ps), some d => if SeqAt.shaped (.list ps) && SeqAt.shaped d then some (.int ((ps.countP fun z => PyData.eqv z d : Nat))) else none
    | _, _ => none
  | _, _ => none
def fIdx : D → D → Option D
  | .lst l, y => match toP (.lst l), toP y with
    | some (.list ps), some d => if SeqAt.shaped (.list ps) && SeqAt.shaped d then (ps.findIdx? fun z => PyData.eqv z d).map fun (j : Nat) => D.int j else none
    | _, _ => none
  | _, _ => none
theorem fCnt_some {x y z : D} (h : fCnt x y = some z) : ∃ l ps d, x = .lst l ∧ toP x = some (.list ps) ∧ toP y = some d ∧ SeqAt.shaped (.list ps) = true ∧ SeqAt.shaped d = true ∧ z = .int ((ps.countP fun w => PyData.eqv w d : Nat)) := by
  unfold fCnt at h
  split at h
  · rename_i l
    split at h
    · rename_i ps d e1 e2
      split at h
      · rename_i c
        cases h
        obtain ⟨c1, c2⟩ := Bool.and_eq_true_iff.mp c
        exact ⟨l, ps, d, rfl, e1, e2, c1, c2, rfl⟩
      · cases h
    · cases h
  · cases h
theorem fIdx_some {x y z : D} (h : fIdx x y = some z) : ∃ l ps d j, x = .lst l ∧ toP x = some (.list ps) ∧ toP y = some d ∧ SeqAt.shaped (.list ps) = true ∧ SeqAt.shaped d = true ∧ ps.findIdx? (fun w => PyData.eqv w d) = some j ∧ z = .int (j : Nat) := by
  unfold fIdx at h
  split at h
  · rename_i l
    split at h
    · rename_i ps d e1 e2
      split at h
      · rename_i c
        obtain ⟨j, hj, rfl⟩ := Option.map_eq_some_iff.mp h
        obtain ⟨c1, c2⟩ := Bool.and_eq_true_iff.mp c
        exact ⟨l, ps, d, j, rfl, e1, e2, c1, c2, hj, rfl⟩
      · cases h
    · cases h
  · cases h
/-- a list's method with one argument -/
def dMt (f : D → D → Option D) (t u : TD) : TD := fun e n Q => t e n fun x m => opt (asL x) fun _ => u e m fun y k => opt (f x y) fun z => Q z k
section
variable {X : Cx} {pn : Pw} {H0 : Hp} {o e : Expr} {t u : TD} {apos cpos : Pos} {k : Nat} {ka : Kd}
theorem pd_count (hr : Room k X.A) (ho : PD X pn H0 ka o t) (he : PD X pn H0 .m e u) (hbase : attributeBase o "count" X.env (eval o X.env) = eval o X.env := by rfl)
    (hfew : ((backTo cpos (starEach (e :: []) X.env)).all (fun x => !x.1) && (backToKw cpos (keywordEach [] X.env)).all (fun x => x.1.isSome) && decide ((e :: []).length + ([] : List Keyword).length + (if ([] : List Keyword).isEmpty then 0 else 1) < 30)) = true := by rfl)
    (hline : (apos.endLine == cpos.line) = true := by rfl) (hs2 : starEach (e :: []) X.env = (false, eval e X.env) :: starEach [] X.env := by rfl) (hplain : (backTo cpos (starEach [] X.env)).any (·.1) = false := by rfl) :
    PD X pn H0 .m (.Call (.Attribute o "count" apos) [e] [] cpos) (dMt fCnt t u) :=
  pe_wk (pe_bm PySem.F.plainAttrs_list PySem.F.slot_list_count PySem.F.type_list_count (mt_countX (by have := hr.un; omega)) ho (pa_cons he pa_nil hs2) hbase hfew hline hs2 hplain) fun σ H Q ⟨en, n, Qd, g, ht, q⟩ => ⟨en, n, _, g, ht, fun v H1 x n1 g1 x1 r1 h0 => by
    obtain ⟨l0, el, h1⟩ := opt_some h0
    have rx0 : RepX pn X.K H1 v x := (r1.rr g.pen).rx
    rw [asL_some el] at rx0
    obtain ⟨a0, vs0, rfl, hs0, _⟩ := rx0.lst
    refine ⟨.inl ⟨rfl, vs0, hs0⟩, ⟨en, n1, _, g1, h1, fun w H2 y n2 g2 x2 r2 h2 => ?_⟩⟩
    obtain ⟨z, hz, hq⟩ := opt_some h2
    obtain ⟨l, ps, d, e1, e2, e3, e4, e5, e6⟩ := fCnt_some hz
    have rx : RepX pn X.K H2 (.ref a0) x := ((r1.rr g.pen).xt x2 g1.pen).rx
    have dp := rx.dp e2
    subst e1
    subst e6
    exact ⟨a0, w, d, ps, rfl, rfl, dp, r2.dp e3, e4, e5, q _ H2 _ n2 g2 (x1.trans x2) (.int _) hq⟩⟩
theorem pd_index (hr : Room k X.A) (ho : PD X pn H0 ka o t) (he : PD X pn H0 .m e u) (hbase : attributeBase o "index" X.env (eval o X.env) = eval o X.env := by rfl)
    (hfew : ((backTo cpos (starEach (e :: []) X.env)).all (fun x => !x.1) && (backToKw cpos (keywordEach [] X.env)).all (fun x => x.1.isSome) && decide ((e :: []).length + ([] : List Keyword).length + (if ([] : List Keyword).isEmpty then 0 else 1) < 30)) = true := by rfl)
    (hline : (apos.endLine == cpos.line) = true := by rfl) (hs2 : starEach (e :: []) X.env = (false, eval e X.env) :: starEach [] X.env := by rfl) (hplain : (backTo cpos (starEach [] X.env)).any (·.1) = false := by rfl) :
    PD X pn H0 .m (.Call (.Attribute o "index" apos) [e] [] cpos) (dMt fIdx t u) :=
  pe_wk (pe_bm PySem.F.plainAttrs_list PySem.F.slot_list_index PySem.F.type_list_index (mt_indexD (by have := hr.un; omega)) ho (pa_cons he pa_nil hs2) hbase hfew hline hs2 hplain) fun σ H Q ⟨en, n, Qd, g, ht, q⟩ => ⟨en, n, _, g, ht, fun v H1 x n1 g1 x1 r1 h0 => by
    obtain ⟨l0, el, h1⟩ := opt_some h0
    have rx0 : RepX pn X.K H1 v x := (r1.rr g.pen).rx
    rw [asL_some el] at rx0
    obtain ⟨a0, vs0, rfl, hs0, _⟩ := rx0.lst
    refine ⟨.inl ⟨rfl, vs0, hs0⟩, ⟨en, n1, _, g1, h1, fun w H2 y n2 g2 x2 r2 h2 => ?_⟩⟩
    obtain ⟨z, hz, hq⟩ := opt_some h2
    obtain ⟨l, ps, d, j, e1, e2, e3, e4, e5, ej, e6⟩ := fIdx_some hz
    have rx : RepX pn X.K H2 (.ref a0) x := ((r1.rr g.pen).xt x2 g1.pen).rx
    have dp := rx.dp e2
    subst e1
    subst e6
    obtain ⟨hj, h3, h4⟩ := List.findIdx?_eq_some_iff_getElem.mp ej
    refine ⟨a0, w, d, ps, j, ps[j], rfl, rfl, dp, r2.dp e3, e4, e5, List.getElem?_eq_getElem hj, h3, fun m z' hm hz' => ?_, q _ H2 _ n2 g2 (x1.trans x2) (.int _) hq⟩
    obtain ⟨hml, rfl⟩ := List.getElem?_eq_some_iff.mp hz'
    simpa using h4 m hm⟩
end
end VD

set_option Elab.async false
set_option linter.all false
set_option maxRecDepth 100000
set_option maxHeartbeats 4000000
namespace VD
open PySem L2

/-! ### the pen: read, written -/
section
variable {X : Cx} {pn : Pw} {H0 : Hp} {x : Str} {pos p cp : Pos} {j : Nat} {e : Expr} {te : TD} {rk : Kd}
theorem pen_at {K : PySem.W.Frag} {H0 H : Hp} {en : En} {n : Nat} {σ : L2.St} {i : Nat} (g : Good pn K H0 en n σ H) (h : en[i]? = some (some (.d .pen))) :
    ∃ a c k l, pn.pen = some a ∧ σ[i]? = some (some (.ref a)) ∧ H a = some (.lst [.ref c, .int k, .int l]) ∧ FzL K H c (pn.cells.map V.int) ∧ 0 ≤ k ∧ k ≤ n ∧ 0 ≤ l := by
  obtain ⟨v, h1, h2⟩ := g.dat i .pen h
  cases h2 with
  | pen h3 =>
    obtain ⟨pe, ns, tb⟩ := pn
    dsimp only at h3
    subst h3
    obtain ⟨c, k, l, q⟩ := g.pen.1
    exact ⟨_, c, k, l, rfl, h1, q⟩
theorem reps_ints {K : PySem.W.Frag} {H : Hp} : ∀ ns : List Int, Reps pn K H (ns.map V.int) (ns.map D.int)
  | [] => .nil
  | n :: l => .cons (.int n) (reps_ints l)
def dPen0 (cells : List Int) (i : Nat) : TD := fun e n Q => e[i]? = some (some (.d .pen)) ∧ Q (.lst (cells.map .int)) n
def dPen1 (i : Nat) : TD := fun e n Q => e[i]? = some (some (.d .pen)) ∧ ∀ k : Int, 0 ≤ k → k ≤ n → Q (.int k) n
def dPen2 (i : Nat) : TD := fun e n Q => e[i]? = some (some (.d .pen)) ∧ ∀ l : Int, 0 ≤ l → Q (.int l) n
theorem pd_pen0 (i : Nat) (hN : X.N[i]? = some x := by rfl) (hv : Vis X.env.scope x := by first | exact Or.inl rfl | exact Or.inr (Or.inl rfl)) (hd : (x == ("__debug__" : Str)) = false := by decide) (hcd : (x == ("__classdict__" : Str)) = false := by decide) (hs : PlainIx (.Constant (.int 0) j cp) := by exact fun _ _ => rfl) :
    PD X pn H0 .m (.Subscript (.Name x p) (.Constant (.int 0) j cp) pos) (dPen0 pn.cells i) := pe_wk (pe_ix ix_list (pe_var hN hv hd hcd) pe_int hs) fun σ H Q ⟨en, n, Qd, g, ⟨hi, w⟩, q⟩ => by
  obtain ⟨a, c, k, l, hp, h1, h2, h3, _⟩ := pen_at g hi
  exact ⟨.ref a, h1, a, _, 0, .ref c, rfl, rfl, SqL.of h2, rfl, q _ H _ n g (Xt.refl _ _) (.lst h3 (reps_ints _)) w⟩
theorem pd_pen1 (i : Nat) (hN : X.N[i]? = some x := by rfl) (hv : Vis X.env.scope x := by first | exact Or.inl rfl | exact Or.inr (Or.inl rfl)) (hd : (x == ("__debug__" : Str)) = false := by decide) (hcd : (x == ("__classdict__" : Str)) = false := by decide) (hs : PlainIx (.Constant (.int 1) j cp) := by exact fun _ _ => rfl) :
    PD X pn H0 .m (.Subscript (.Name x p) (.Constant (.int 1) j cp) pos) (dPen1 i) := pe_wk (pe_ix ix_list (pe_var hN hv hd hcd) pe_int hs) fun σ H Q ⟨en, n, Qd, g, ⟨hi, w⟩, q⟩ => by
  obtain ⟨a, c, k, l, hp, h1, h2, _, h4, h5, _⟩ := pen_at g hi
  exact ⟨.ref a, h1, a, _, 1, .int k, rfl, rfl, SqL.of h2, rfl, q _ H _ n g (Xt.refl _ _) (.int k) (w k h4 h5)⟩
theorem pd_pen2 (i : Nat) (hN : X.N[i]? = some x := by rfl) (hv : Vis X.env.scope x := by first | exact Or.inl rfl | exact Or.inr (Or.inl rfl)) (hd : (x == ("__debug__" : Str)) = false := by decide) (hcd : (x == ("__classdict__" : Str)) = false := by decide) (hs : PlainIx (.Constant (.int 2) j cp) := by exact fun _ _ => rfl) :
    PD X pn H0 .m (.Subscript (.Name x p) (.Constant (.int 2) j cp) pos) (dPen2 i) := pe_wk (pe_ix ix_list (pe_var hN hv hd hcd) pe_int hs) fun σ H Q ⟨en, n, Qd, g, ⟨hi, w⟩, q⟩ => by
  obtain ⟨a, c, k, l, hp, h1, h2, _, _, _, h6⟩ := pen_at g hi
  exact ⟨.ref a, h1, a, _, 2, .int l, rfl, rfl, SqL.of h2, rfl, q _ H _ n g (Xt.refl _ _) (.int l) (w l h6)⟩
/-- the pen's list as written -/
theorem pen_put {K : PySem.W.Frag} {H0 H : Hp} {en : En} {n m : Nat} {σ : L2.St} {a c : Addr} {vs : List V} {k l : Int} (g : Good pn K H0 en n σ H) (hp : pn.pen = some a) (h : H a = some (.lst vs)) (hc : FzL K H c (pn.cells.map V.int)) (h1 : 0 ≤ k) (h2 : k ≤ m) (h3 : 0 ≤ l) :
    Good pn K H0 en m σ (upd H a (.lst [.ref c, .int k, .int l])) ∧ Xt pn H (upd H a (.lst [.ref c, .int k, .int l])) := by
  have gr : Gr H (upd H a (.lst [.ref c, .int k, .int l])) := Gr.mut h fun z => z
  have x : Xt pn H (upd H a (.lst [.ref c, .int k, .int l])) := fun b o z no => by
    rw [upd_ne fun w => no (.inl (by rw [w]; exact hp))]
    exact z
  refine ⟨g.xt x ?_, x⟩
  obtain ⟨pe, ns, tb⟩ := pn
  dsimp only at hp
  subst hp
  refine ⟨⟨c, k, l, upd_same, hc.gr gr, h1, h2, h3⟩, fun P hP => ?_⟩
  obtain ⟨ps, q1, q2⟩ := g.pen.2 P hP
  refine ⟨ps, ?_, q2⟩
  rw [upd_ne fun w => by rw [w, h] at q1; cases q1]
  exact q1
def dPut1 (i : Nat) (te : TD) : TSD := fun F e n => te e n fun y m => e[i]? = some (some (.d .pen)) ∧ ∃ k : Int, y = .int k ∧ 0 ≤ k ∧ k ≤ (m + 1 : Nat) ∧ F.nx e (m + 1)
def dPut2 (i : Nat) (te : TD) : TSD := fun F e n => te e n fun y m => e[i]? = some (some (.d .pen)) ∧ ∃ l : Int, y = .int l ∧ 0 ≤ l ∧ F.nx e m
theorem psd_pen1 (i : Nat) {spos : Pos} (h : PD X pn H0 .m e te) (hN : X.N[i]? = some x := by rfl) (hv : Vis X.env.scope x := by first | exact Or.inl rfl | exact Or.inr (Or.inl rfl)) (hd : (x == ("__debug__" : Str)) = false := by decide) (hcd : (x == ("__classdict__" : Str)) = false := by decide)
    (ha : ∀ v, assign (.Subscript (.Name x p) (.Constant (.int 1) j cp) spos) X.env v = (do
      let ov ← holding [v] (eval (.Name x p) X.env)
      let iv ← holding [v, ov] (eval (.Constant (.int 1) j cp) X.env)
      standAt spos
      holding [v, ov, iv] (setItem ov iv v)
      release [v, ov, iv] []) := by intro _; rfl)
    (hs : swapsWithSole [.Subscript (.Name x p) (.Constant (.int 1) j cp) spos] e pos.line X.env = pure false := by rfl) (hw : swappedStores [.Subscript (.Name x p) (.Constant (.int 1) j cp) spos] e X.env = pure none := by rfl)
    (hA : (assignEach [.Subscript (.Name x p) (.Constant (.int 1) j cp) spos] X.env).map (·.2) = [assign (.Subscript (.Name x p) (.Constant (.int 1) j cp) spos) X.env] := by rfl) :
    PSD X pn H0 rk (.Assign [.Subscript (.Name x p) (.Constant (.int 1) j cp) spos] e pos) (dPut1 i te) :=
  ps_wk (ps_asg h (pg_sub (pe_var hN hv hd hcd) pe_int set_list ha) hs hw hA) fun E σ H ⟨en, n, F, g, ht, q⟩ => ⟨en, n, _, g, ht, fun v H1 y n1 g1 x1 r1 ⟨hi, k, ey, h1, h2, w⟩ => by
    subst ey
    obtain ⟨a, c, k0, l, hp, e1, e2, e3, e4, e5, e6⟩ := pen_at g1 hi
    cases r1
    obtain ⟨g2, x2⟩ := pen_put g1 hp e2 e3 h1 h2 e6
    exact ⟨.ref a, e1, a, _, 1, 1, rfl, rfl, e2, rfl, q.nx σ _ en (n1 + 1) g2 ((x1.trans x2).gr g.pen) w⟩⟩
theorem psd_pen2 (i : Nat) {spos : Pos} (h : PD X pn H0 .m e te) (hN : X.N[i]? = some x := by rfl) (hv : Vis X.env.scope x := by first | exact Or.inl rfl | exact Or.inr (Or.inl rfl)) (hd : (x == ("__debug__" : Str)) = false := by decide) (hcd : (x == ("__classdict__" : Str)) = false := by decide)
    (ha : ∀ v, assign (.Subscript (.Name x p) (.Constant (.int 2) j cp) spos) X.env v = (do
      let ov ← holding [v] (eval (.Name x p) X.env)
      let iv ← holding [v, ov] (eval (.Constant (.int 2) j cp) X.env)
      standAt spos
      holding [v, ov, iv] (setItem ov iv v)
      release [v, ov, iv] []) := by intro _; rfl)
    (hs : swapsWithSole [.Subscript (.Name x p) (.Constant (.int 2) j cp) spos] e pos.line X.env = pure false := by rfl) (hw : swappedStores [.Subscript (.Name x p) (.Constant (.int 2) j cp) spos] e X.env = pure none := by rfl)
    (hA : (assignEach [.Subscript (.Name x p) (.Constant (.int 2) j cp) spos] X.env).map (·.2) = [assign (.Subscript (.Name x p) (.Constant (.int 2) j cp) spos) X.env] := by rfl) :
    PSD X pn H0 rk (.Assign [.Subscript (.Name x p) (.Constant (.int 2) j cp) spos] e pos) (dPut2 i te) :=
  ps_wk (ps_asg h (pg_sub (pe_var hN hv hd hcd) pe_int set_list ha) hs hw hA) fun E σ H ⟨en, n, F, g, ht, q⟩ => ⟨en, n, _, g, ht, fun v H1 y n1 g1 x1 r1 ⟨hi, l, ey, h1, w⟩ => by
    subst ey
    obtain ⟨a, c, k0, l0, hp, e1, e2, e3, e4, e5, e6⟩ := pen_at g1 hi
    cases r1
    obtain ⟨g2, x2⟩ := pen_put g1 hp e2 e3 e4 e5 h1
    exact ⟨.ref a, e1, a, _, 2, 2, rfl, rfl, e2, rfl, q.nx σ _ en n1 g2 ((x1.trans x2).gr g.pen) w⟩⟩
end

/-! ### a list becomes the pen -/
section
variable {K : PySem.W.Frag} {H H0 : Hp} {cs : List Int} {tabs : List Addr} {pn : Pw}
mutual
theorem Rep.open : ∀ {v : V} {x : D}, Rep ⟨none, cs, tabs⟩ K H v x → Rep pn K H v x
  | _, _, .non => .non
  | _, _, .bl b => .bl b
  | _, _, .int i => .int i
  | _, _, .str z => .str z
  | _, _, .tup h r => .tup h (Reps.open r)
  | _, _, .lst h r => .lst h (Reps.open r)
  | _, _, .ro h r => .ro h (Reps.open r)
  | _, _, .exc0 h => .exc0 h
  | _, _, .exc1 h1 h2 r => .exc1 h1 h2 (Rep.open r)
theorem Reps.open : ∀ {vs : List V} {l : List D}, Reps ⟨none, cs, tabs⟩ K H vs l → Reps pn K H vs l
  | _, _, .nil => .nil
  | _, _, .cons r t => .cons (Rep.open r) (Reps.open t)
end
theorem good_open {e : En} {n : Nat} {σ : L2.St} {i : Nat} {ns : List Int} {k l : Int} (g : Good ⟨none, cs, tabs⟩ K H0 e n σ H) (hi : e[i]? = some (some (.own [.lst (ns.map .int), .int k, .int l]))) (h1 : 0 ≤ k) (h2 : k ≤ n) (h3 : 0 ≤ l) :
    ∃ a, Good ⟨some a, ns, tabs⟩ K H0 (e.set i (some (.d .pen))) n σ H := by
  obtain ⟨a, vs, s1, s2, s3, s4, s5⟩ := g.own i _ hi
  have hl : i < e.length := by
    rcases Nat.lt_or_ge i e.length with z | z
    · exact z
    · rw [List.getElem?_eq_none z] at hi
      cases hi
  obtain ⟨c, hv, hc⟩ : ∃ c, vs = [.ref c, .int k, .int l] ∧ FzL K H c (ns.map V.int) := by
    cases s3 with
    | cons r1 t1 =>
      cases t1 with
      | cons r2 t2 =>
        cases t2 with
        | cons r3 t3 =>
          cases t3
          cases r2
          cases r3
          cases r1 with
          | lst f r =>
            refine ⟨_, rfl, ?_⟩
            have : ∀ (us : List V) (ns : List Int), Reps ⟨none, cs, tabs⟩ K H us (ns.map .int) → us = ns.map V.int := fun us ns => by
              induction ns generalizing us with
              | nil =>
                intro z
                cases z
                rfl
              | cons m ns ih =>
                intro z
                cases z with
                | cons z1 z2 =>
                  cases z1
                  rw [ih _ z2]
                  rfl
            rw [← this _ _ r]
            exact f
  subst hv
  refine ⟨a, ⟨by rw [List.length_set]; exact g.len, fun j y z => ?_, fun j m z => ?_, fun j j' m m' b hj z1 z2 z3 => ?_, fun b o z no => ?_, ⟨⟨c, k, l, s2, hc, h1, h2, h3⟩, g.pen.2⟩⟩⟩
  · by_cases q : i = j
    · subst q
      rw [List.getElem?_set_self hl] at z
      cases z
      exact ⟨.ref a, s1, .pen rfl⟩
    · rw [List.getElem?_set_ne q] at z
      obtain ⟨v, z1, z2⟩ := g.dat j y z
      exact ⟨v, z1, z2.open⟩
  · by_cases q : i = j
    · subst q
      rw [List.getElem?_set_self hl] at z
      cases z
    · rw [List.getElem?_set_ne q] at z
      obtain ⟨b, us, z1, z2, z3, z4, z5⟩ := g.own j m z
      refine ⟨b, us, z1, z2, z3.open, z4, fun w => ?_⟩
      rcases w with w | w
      · cases w
        exact g.ne i j _ m _ q hi z s1 z1
      · exact z5 (.inr w)
  · have nj : i ≠ j := by
      rintro rfl
      rw [List.getElem?_set_self hl] at z1
      cases z1
    have nj' : i ≠ j' := by
      rintro rfl
      rw [List.getElem?_set_self hl] at z2
      cases z2
    rw [List.getElem?_set_ne nj] at z1
    rw [List.getElem?_set_ne nj'] at z2
    exact g.ne j j' m m' b hj z1 z2 z3
  · refine g.stay b o z fun w => ?_
    rcases w with w | w
    · cases w
    · exact no (.inr w)
end
end VD

set_option Elab.async false
set_option linter.all false
set_option maxRecDepth 100000
set_option maxHeartbeats 4000000
namespace VD
open PySem L2

/-! ### what a derivation names -/
/-- the builtin names that the module's top leaves as they are -/
structure BltN (mg : Str → Option Value) : Prop where
  isinstance : mg "isinstance" = none
  int : mg "int" = none
  bool : mg "bool" = none
  str : mg "str" = none
  tuple : mg "tuple" = none
  list : mg "list" = none
  len : mg "len" = none
  range : mg "range" = none
  enumerate : mg "enumerate" = none
  zip : mg "zip" = none
  all : mg "all" = none
  any : mg "any" = none
  sorted : mg "sorted" = none
  set : mg "set" = none
  min : mg "min" = none
  max : mg "max" = none
  sum : mg "sum" = none
  repr : mg "repr" = none
  ValueError : mg "ValueError" = none
/-- a def of the module that keeps a promise -/
def Has (P : Program) (w : World) (K : PySem.W.Frag) (mg : Str → Option Value) (base : Heap) (CX : CXT) (k : Nat) (x : Str) (ps : List Str) (sp : Sp) : Prop :=
  ∃ f fd, FnG P w K mg base CX k f fd ps sp ∧ mg x = some (.ref f) ∧ PySem.W.keepIn K (.ref f) = true ∧ Binds K fd ps []
section
variable {X : Cx} {pn : Pw} {H0 : Hp} {CX : CXT} {k : Nat} {ps : List Str} {x : Str} {p pos : Pos} {e : Expr} {es : List Expr}
theorem pd_callH {ar : Nat} {rk : Kd} {tf : TF} {t : TAD} {Ed : EK} {j : Nat} (h : Has X.prog X.w X.K X.mg X.base CX k x ps (spD ar pn X.K rk tf)) (hr : Room j X.A) (hk : k ≤ j) (hG : X.A.guards = some []) (hg : Gl X x) (hx : Tak X pn H0 CX Ed) (ha : PDA X pn H0 (e :: es) t)
    (hdb : (x == ("__debug__" : Str)) = false := by decide) (he : starEach (e :: es) X.env = (false, eval e X.env) :: starEach es X.env := by rfl) (hpl : (backTo pos (starEach es X.env)).any (·.1) = false := by rfl) : PD X pn H0 rk (.Call (.Name x p) (e :: es) [] pos) (dCall ar tf Ed t) :=
  let ⟨_, _, F, hm, kp, hb⟩ := h
  pd_call F (hr.mono hk) hG hg hm kp hb hx ha hdb he hpl
end
/-- a promise weakened to what is wanted of it -/
theorem Has.wk {P : Program} {w : World} {K : PySem.W.Frag} {mg : Str → Option Value} {base : Heap} {CX : CXT} {k : Nat} {x : Str} {ps : List Str} {ar : Nat} {pn : Pw} {rk : Kd} {tf tf' : TF} (h : Has P w K mg base CX k x ps (spD ar pn K rk tf)) (w1 : ∀ l n Q E, tf' l n Q E → tf l n Q E) :
    Has P w K mg base CX k x ps (spD ar pn K rk tf') :=
  let ⟨f, fd, F, hm, kp, hb⟩ := h
  ⟨f, fd, ⟨fun vs H Q E ⟨l, n, Qd, Ed, r, p, e, t, a, b⟩ => F.len vs H Q E ⟨l, n, Qd, Ed, r, p, e, w1 _ _ _ _ t, a, b⟩, fun A outer s H args us vs Q E hr hG e0 bd rv ⟨l, n, Qd, Ed, r, p, e, t, a, b⟩ => F.run A outer s H args us vs Q E hr hG e0 bd rv ⟨l, n, Qd, Ed, r, p, e, w1 _ _ _ _ t, a, b⟩⟩, hm, kp, hb⟩
theorem owns_cx {CX : CXT} {P : Program} {w : World} {K : PySem.W.Frag} {mg : Str → Option Value} {base : Heap} {N : List Str} {ql : Str} {sc : Scope} {f : Addr} {cdv : Value} {A : Around} {outer : List Env} {s : Shared} {H : Hp} {E : XK} :
    PassesOwn (model P w) (cxOf CX P w K mg base N ql sc f cdv A outer s H E).A (cxOf CX P w K mg base N ql sc f cdv A outer s H E).env (cxOf CX P w K mg base N ql sc f cdv A outer s H E).xe := passes_of rfl
theorem gNl_len : ∀ l e e', gNl l e = some e' → l.length = 0
  | [], _, _, _ => rfl
  | _ :: _, _, _, h => by cases h
theorem gCn_len {g : GD} {k : List D → En → Option En} {n : Nat} (h : ∀ l e e', k l e = some e' → l.length = n) : ∀ l e e', gCn g k l e = some e' → l.length = n + 1
  | [], _, _, q => by cases q
  | x :: l, e, e', q => by
    obtain ⟨e1, _, q2⟩ := Option.bind_eq_some_iff.mp (show ((g x e).bind fun e2 => k l e2) = some e' from q)
    rw [List.length_cons, h l e1 e' q2]
/-- a text repeated -/
def repS (x : Str) (n : Int) : Str := ⟨(List.replicate n.toNat x.cps).foldl (· ++ ·) #[]⟩
def fRepS : D → D → Option D
  | .str x, .int n => if 2 ≤ n ∧ n ≤ 1000 ∧ 1 ≤ x.length ∧ x.length ≤ 1000 then some (.str (repS x n)) else none
  | _, _ => none
theorem foldl_size : ∀ (l : List (Array Nat)) (a : Array Nat), (l.foldl (· ++ ·) a).size = a.size + (l.map Array.size).sum
  | [], a => by simp
  | b :: l, a => by
    rw [List.foldl_cons, foldl_size l, Array.size_append, List.map_cons, List.sum_cons]
    omega
theorem repS_len (x : Str) (n : Int) : (repS x n).length = x.length * n.toNat := by
  show (repS x n).cps.size = x.cps.size * n.toNat
  unfold repS
  rw [foldl_size]
  simp [Nat.mul_comm]
def rRepS : R2 := fun v w H Q => ∃ x n, v = .str x ∧ w = .int n ∧ (2 ≤ n ∧ n ≤ 1000 ∧ 1 ≤ x.length ∧ x.length ≤ 1000) ∧ Q (.str (repS x n)) H
theorem op_repS {X : Cx} : OpR X (binaryOp .Mult) rRepS := by
  intro pins s σ H a b v u Q I ra rb ⟨x, n, ea, eb, ⟨h1, h2, h3, h4⟩, q⟩
  subst ea eb
  obtain ⟨t, rfl⟩ := ra
  obtain ⟨t', rfl⟩ := rb
  have small : x.length * n.toNat ≤ 1000000 := by
    have : n.toNat ≤ 1000 := by omega
    calc x.length * n.toNat ≤ 1000 * 1000 := Nat.mul_le_mul h4 this
      _ = 1000000 := rfl
  have g1 : ¬ n < 1 := by omega
  have g2 : (n == 1 || x.length == 0) = false := by
    rw [Bool.or_eq_false_iff]
    exact ⟨beq_false_of_ne (by omega), beq_false_of_ne (by omega)⟩
  have tl : PySem.Builtin.Str.tooLong (x.length * n.toNat) = false := by
    refine decide_eq_false (?_ : ¬ x.length * n.toNat > sizeLine)
    rw [sizeLine_eq]
    omega
  refine PySem.P.mul_str (by
    have a1 : ¬ n < -(2 ^ 63 : Int) := by omega
    have a2 : ¬ n ≥ 2 ^ 63 := by omega
    rw [decide_eq_false a1, decide_eq_false a2]
    rfl) (fun _ _ z => ?_) (fun _ _ => tl) ?_
  · have z1 : (x.length : Int) ≤ 1000 := by omega
    have z2 : (1000 : Int) ≤ (2 ^ 63 - 1) / n := Int.le_ediv_of_mul_le (by omega) (by omega)
    omega
  · rw [if_neg g1, g2]
    refine ⟨?_, .str (repS x n), H, I.tok _, ⟨_, rfl⟩, q⟩
    show (repS x n).length ≤ sizeLine
    rw [repS_len, sizeLine_eq]
    omega
theorem ob_repS {X : Cx} {pn : Pw} : OpB X pn .Mult .m fRepS := ⟨_, op_repS, fun _ _ H n v w x y z hp h1 h2 e Q q => by
  unfold fRepS at e
  split at e
  · split at e
    · rename_i c
      cases e
      exact ⟨_, _, h1.rx.str, h2.rx.int, c, q _ H (Xt.refl _ _) hp (.str _)⟩
    · cases e
  · cases e⟩
theorem pdw_pt {X : Cx} {pn : Pw} {H0 : Hp} {e : Expr} {t : TTD} (h : PDW X pn H0 e t) : PDT X pn H0 e t := h.pt

/-! ### error classes, as a derivation names them -/
structure Exc0 (K : PySem.W.Frag) (C : Addr) : Prop where
  ok : ∃ B newId initId bmB, ExcBaseFacts B newId initId bmB ∧ PySem.W.excIn K C bmB newId = true
  kp : PySem.W.keepIn K (.ref C) = true
  sub : PySem.W.subIn K (.ref C) (.type "BaseException") = some true
  ty : PySem.W.typeIn K (.ref C) = some (.type "type")
def ExcI (P : Program) (w : World) (K : PySem.W.Frag) (mg : Str → Option Value) (base : Heap) (k : Nat) (C : Addr) (fl : Str) : Prop :=
  ∃ fI fd ps, OexC K C ∧ PySem.W.findIn K (.ref C) "__init__" = some (some (.ref fI)) ∧ PySem.W.typeIn K (.ref fI) = some (.type "function") ∧ FnG P w K mg base CX0 k fI fd ps (spI C fl) ∧ Binds K fd ps []
section
variable {X : Cx} {pn : Pw} {H0 : Hp} {e : Expr} {t : TD} {x : Str} {p pos : Pos} {C : Addr}
theorem pd_excN (E0 : Exc0 X.K C) (gC : X.mg x = some (.ref C)) (hg : Gl X x) (ha : PD X pn H0 .m e t) (hs : starEach [e] X.env = (false, eval e X.env) :: starEach [] X.env := by rfl) (hdb : (x == ("__debug__" : Str)) = false := by decide) :
    PD X pn H0 .m (.Call (.Name x p) [e] [] pos) (dExc0 C t) :=
  let ⟨_, _, _, _, F, q⟩ := E0.ok
  pd_exc0 F q gC E0.kp hg ha hs hdb
theorem pd_excK {k j : Nat} {fl : Str} (E1 : ExcI X.prog X.w X.K X.mg X.base k C fl) (hr : Room j X.A) (hk : k + 1 ≤ j) (hG : X.A.guards = some []) (hg : Gl X x) (hm : X.mg x = some (.ref C)) (ha : PD X pn H0 .m e t)
    (hs : starEach [e] X.env = (false, eval e X.env) :: starEach [] X.env := by rfl) (hdb : (x == ("__debug__" : Str)) = false := by decide) (hpl : (backTo pos (starEach [] X.env)).any (·.1) = false := by rfl) : PD X pn H0 .m (.Call (.Name x p) [e] [] pos) (dExc1 C fl t) :=
  let ⟨_, _, _, T, iC, tI, F, hb⟩ := E1
  pd_excI T iC tI F (hr.mono hk) hG hb hg hm ha hs hdb hpl
end
end VD

set_option Elab.async false
set_option linter.all false
set_option maxRecDepth 100000
set_option maxHeartbeats 4000000
namespace VD
open PySem L2

/-! ### the meanings, step by step -/
section
variable {α : Type} {k : D → Prop} {i j : Int}
theorem ev_some {a : α} {k : α → Prop} : opt (some a) k ↔ k a := ⟨fun h => h, fun h => h⟩
theorem ev_add : opt (fAdd (.int i) (.int j)) k ↔ k (.int (i + j)) := ⟨fun h => h, fun h => h⟩
theorem ev_sub : opt (fSub (.int i) (.int j)) k ↔ k (.int (i - j)) := ⟨fun h => h, fun h => h⟩
theorem ev_neg : opt (fNeg (.int i)) k ↔ k (.int (-i)) := ⟨fun h => h, fun h => h⟩
theorem ev_c {C : Int → Int → Bool} {g : Int → Int → D} : opt (fIc C g (.int i) (.int j)) k ↔ C i j = true ∧ k (g i j) := by
  unfold fIc
  show opt (if C i j = true then some (g i j) else none) k ↔ _
  cases h : C i j with
  | true => exact ⟨fun q => ⟨rfl, q⟩, fun q => q.2⟩
  | false => exact ⟨fun q => q.elim, fun q => absurd q.1 Bool.false_ne_true⟩
theorem ev_mul : opt (fMul (.int i) (.int j)) k ↔ CMul i j ∧ k (.int (i * j)) := ev_c.trans (and_congr decide_eq_true_iff Iff.rfl)
theorem ev_mod : opt (fMod (.int i) (.int j)) k ↔ 0 < j ∧ k (.int (i % j)) := ev_c.trans (and_congr decide_eq_true_iff Iff.rfl)
theorem ev_div : opt (fDiv (.int i) (.int j)) k ↔ CDiv i j ∧ k (.int (i / j)) := ev_c.trans (and_congr decide_eq_true_iff Iff.rfl)
theorem ev_pow : opt (fPow (.int i) (.int j)) k ↔ CPow i j ∧ k (.int (i ^ j.toNat)) := ev_c.trans (and_congr decide_eq_true_iff Iff.rfl)
theorem ev_lt : opt (fLt (.int i) (.int j)) k ↔ k (.bl (decide (i < j))) := ⟨fun h => h, fun h => h⟩
theorem ev_le : opt (fLe (.int i) (.int j)) k ↔ k (.bl (decide (i ≤ j))) := ⟨fun h => h, fun h => h⟩
theorem ev_gt : opt (fGt (.int i) (.int j)) k ↔ k (.bl (decide (j < i))) := ⟨fun h => h, fun h => h⟩
theorem ev_ge : opt (fGe (.int i) (.int j)) k ↔ k (.bl (decide (j ≤ i))) := ⟨fun h => h, fun h => h⟩
theorem ev_asB {b : Bool} {k : Bool → Prop} : opt (asB (.bl b)) k ↔ k b := ⟨fun h => h, fun h => h⟩
theorem ev_asI {k : Int → Prop} : opt (asI (.int i)) k ↔ k i := ⟨fun h => h, fun h => h⟩
theorem ev_asL {l : List D} {k : List D → Prop} : opt (asL (.lst l)) k ↔ k l := ⟨fun h => h, fun h => h⟩
theorem ev_asTp {l : List D} {k : List D → Prop} : opt (asTp (.tup l)) k ↔ k l := ⟨fun h => h, fun h => h⟩
theorem ev_if {P : Prop} [Decidable P] {x : D} : opt (if P then some x else none) k ↔ P ∧ k x := by
  by_cases h : P
  · rw [if_pos h]
    exact ⟨fun q => ⟨h, q⟩, fun q => q.2⟩
  · rw [if_neg h]
    exact ⟨fun q => q.elim, fun q => absurd q.1 h⟩
theorem ev_catL {l m : List D} : opt (fCatL (.lst l) (.lst m)) k ↔ l.length + m.length ≤ 100000 ∧ k (.lst (l ++ m)) := ev_if
theorem ev_catS {x y : Str} : opt (fCatS (.str x) (.str y)) k ↔ opt (fCatS (.str x) (.str y)) k := ⟨fun h => h, fun h => h⟩
theorem ev_ixL {l : List D} : opt (fIxL (.lst l) (.int i)) k ↔ opt (atI l i) k := ⟨fun h => h, fun h => h⟩
theorem ev_ixT {l : List D} : opt (fIxT (.tup l) (.int i)) k ↔ opt (atI l i) k := ⟨fun h => h, fun h => h⟩
theorem ev_lenL {l : List D} : opt (fLen (.lst l)) k ↔ k (.int (l.length : Nat)) := ⟨fun h => h, fun h => h⟩
theorem ev_lenT {l : List D} : opt (fLen (.tup l)) k ↔ k (.int (l.length : Nat)) := ⟨fun h => h, fun h => h⟩
theorem atI_nn {l : List D} (h : 0 ≤ i) : atI l i = l[i.toNat]? := by
  unfold atI ixN
  rw [if_pos h]
  by_cases q : i < (l.length : Nat)
  · rw [if_pos q]
    rfl
  · rw [if_neg q, List.getElem?_eq_none (by omega)]
    rfl
end
section
variable {F : DE} {e : En} {n i : Nat} {Q : DK} {x : D} {t u v : TD} {a b : TSD} {f : D → Option D} {g : D → D → Option D} {c d : TTD} {l m : TAD} {tf : TF} {E : EK} {R : Bool → Nat → Prop} {W : List D → Nat → Prop}
theorem s_C : dC x e n Q ↔ Q x n := ⟨fun h => h, fun h => h⟩
theorem s_var : dVar i e n Q ↔ ∃ y, e[i]? = some (some (.d y)) ∧ Q y n := by
  unfold dVar
  constructor
  · intro h
    split at h
    · rename_i y hy
      exact ⟨y, hy, h⟩
    · exact h.elim
  · rintro ⟨y, hy, h⟩
    rw [hy]
    exact h
theorem s_own : dOwn i e n Q ↔ ∃ y, e[i]? = some (some (.own y)) ∧ Q (.lst y) n := by
  unfold dOwn
  constructor
  · intro h
    split at h
    · rename_i y hy
      exact ⟨y, hy, h⟩
    · exact h.elim
  · rintro ⟨y, hy, h⟩
    rw [hy]
    exact h
theorem s_1 : d1 f t e n Q ↔ t e n fun x m => opt (f x) fun z => Q z m := ⟨fun h => h, fun h => h⟩
theorem s_2 : d2 g t u e n Q ↔ t e n fun x n1 => u e n1 fun y n2 => opt (g x y) fun z => Q z n2 := ⟨fun h => h, fun h => h⟩
theorem s_T : dT t e n R ↔ t e n fun x m => opt (asB x) fun b => R b m := ⟨fun h => h, fun h => h⟩
theorem s_notT : dNotT c e n R ↔ c e n fun b m => R (!b) m := ⟨fun h => h, fun h => h⟩
theorem s_andT : dAndT c d e n R ↔ c e n fun b m => if b = true then d e m R else R false m := ⟨fun h => h, fun h => h⟩
theorem s_orT : dOrT c d e n R ↔ c e n fun b m => if b = true then R true m else d e m R := ⟨fun h => h, fun h => h⟩
theorem s_and : dAnd t u e n Q ↔ t e n fun x m => opt (asB x) fun b => if b = true then u e m Q else Q (.bl false) m := ⟨fun h => h, fun h => h⟩
theorem s_or : dOr t u e n Q ↔ t e n fun x m => opt (asB x) fun b => if b = true then Q (.bl true) m else u e m Q := ⟨fun h => h, fun h => h⟩
theorem s_not : dNot t e n Q ↔ t e n fun x m => opt (asB x) fun b => Q (.bl (!b)) m := ⟨fun h => h, fun h => h⟩
theorem s_if : dIf c t u e n Q ↔ c e n fun b m => if b = true then t e m Q else u e m Q := ⟨fun h => h, fun h => h⟩
theorem s_nil : dNil e n W ↔ W [] n := ⟨fun h => h, fun h => h⟩
theorem s_cons : dCons t l e n W ↔ t e n fun x m => l e m fun k j => W (x :: k) j := ⟨fun h => h, fun h => h⟩
theorem s_tup : dTup l e n Q ↔ l e n fun k m => k.length ≤ 100000 ∧ Q (.tup k) m := ⟨fun h => h, fun h => h⟩
theorem s_lst : dLst l e n Q ↔ l e n fun k m => k.length ≤ 100000 ∧ Q (.lst k) m := ⟨fun h => h, fun h => h⟩
theorem s_call {ar : Nat} : dCall ar tf E l e n Q ↔ l e n fun k m => k.length = ar ∧ tf k m Q E := ⟨fun h => h, fun h => h⟩
section
variable {p : En → Nat → Prop} {r : DK} {o k : En → Nat → Prop}
theorem s_next : dNext ⟨p, r, o, k⟩ e n ↔ p e n := ⟨fun h => h, fun h => h⟩
theorem s_seq : dSeq a b ⟨p, r, o, k⟩ e n ↔ a ⟨b ⟨p, r, o, k⟩, r, o, k⟩ e n := ⟨fun h => h, fun h => h⟩
theorem s_ifS : dIfS c a b ⟨p, r, o, k⟩ e n ↔ c e n fun q m => if q = true then a ⟨p, r, o, k⟩ e m else b ⟨p, r, o, k⟩ e m := ⟨fun h => h, fun h => h⟩
theorem s_ret : dRet t ⟨p, r, o, k⟩ e n ↔ t e n r := ⟨fun h => h, fun h => h⟩
theorem s_set : dSet i t ⟨p, r, o, k⟩ e n ↔ t e n fun x m => p (e.set i (some (.d x))) m := ⟨fun h => h, fun h => h⟩
theorem s_setO : dSetO i t ⟨p, r, o, k⟩ e n ↔ t e n fun x m => opt (asL x) fun w => p (e.set i (some (.own w))) m := ⟨fun h => h, fun h => h⟩
theorem s_drop : dDrop t ⟨p, r, o, k⟩ e n ↔ t e n fun _ m => p e m := ⟨fun h => h, fun h => h⟩
theorem s_put1 : dPut1 i t ⟨p, r, o, k⟩ e n ↔ t e n fun y m => e[i]? = some (some (.d .pen)) ∧ ∃ z : Int, y = .int z ∧ 0 ≤ z ∧ z ≤ (m + 1 : Nat) ∧ p e (m + 1) := ⟨fun h => h, fun h => h⟩
theorem s_put2 : dPut2 i t ⟨p, r, o, k⟩ e n ↔ t e n fun y m => e[i]? = some (some (.d .pen)) ∧ ∃ z : Int, y = .int z ∧ 0 ≤ z ∧ p e m := ⟨fun h => h, fun h => h⟩
theorem s_app : dApp i t ⟨p, r, o, k⟩ e n ↔ opt (ownAt e i) fun w => t e n fun x m => w.length < 100000 ∧ p (e.set i (some (.own (w ++ [x])))) m := ⟨fun h => h, fun h => h⟩
theorem s_frz : dFrz i a ⟨p, r, o, k⟩ e n ↔ opt (ownAt e i) fun w => a ⟨p, r, o, k⟩ (e.set i (some (.d (.lst w)))) n := ⟨fun h => h, fun h => h⟩
theorem s_for {ti : TID} {gd : GD} : dFor ti gd a ⟨p, r, o, k⟩ e n ↔ ti e n fun w m => dForL gd a w ⟨p, r, o, k⟩ e m := ⟨fun h => h, fun h => h⟩
end
theorem s_pen1 : dPen1 i e n Q ↔ e[i]? = some (some (.d .pen)) ∧ ∀ k : Int, 0 ≤ k → k ≤ n → Q (.int k) n := ⟨fun h => h, fun h => h⟩
theorem s_pen2 : dPen2 i e n Q ↔ e[i]? = some (some (.d .pen)) ∧ ∀ k : Int, 0 ≤ k → Q (.int k) n := ⟨fun h => h, fun h => h⟩
theorem s_pen0 {cs : List Int} : dPen0 cs i e n Q ↔ e[i]? = some (some (.d .pen)) ∧ Q (.lst (cs.map .int)) n := ⟨fun h => h, fun h => h⟩
theorem var_at {y : D} (h : e[i]? = some (some (.d y))) (q : Q y n) : dVar i e n Q := s_var.mpr ⟨y, h, q⟩
end
end VD

set_option Elab.async false
set_option linter.all false
set_option maxRecDepth 100000
set_option maxHeartbeats 4000000
namespace VD
open PySem L2

/-! ### several names at once -/
section
variable {X : Cx} {pn : Pw} {H0 : Hp} {rk : Kd} {pos : Pos} {a b tg : Expr} {t u : TD}
/-- targets = e -/
def dAsg (g : GD) (t : TD) : TSD := fun F e n => t e n fun x m => opt (g x e) fun e' => F.nx e' m
theorem psd_asg {g : GD} {ws : List Nat} (h : PD X pn H0 .m a t) (hg : PGD X pn H0 ws tg g) (hs : swapsWithSole [tg] a pos.line X.env = pure false := by rfl) (hw : swappedStores [tg] a X.env = pure none := by rfl)
    (h1 : (assignEach [tg] X.env).map (·.2) = [assign tg X.env] := by rfl) : PSD X pn H0 rk (.Assign [tg] a pos) (dAsg g t) :=
  ps_wk (ps_asg h hg hs hw h1) fun E σ H ⟨en, n, F, gd, ht, q⟩ => ⟨en, n, _, gd, ht, fun v H1 y n1 g1 x1 r1 w => by
    obtain ⟨e2, e3, w2⟩ := opt_some w
    exact ⟨en, n1, y, e2, g1, r1, e3, fun σ2 g2 _ => q.nx σ2 H1 e2 n1 g2 (x1.gr gd.pen) w2⟩⟩
/-- what a slot takes: data, or a list of its own -/
def slotOf : Bool → D → Option S
  | false, x => some (.d x)
  | true, .lst l => some (.own l)
  | true, _ => none
abbrev kd (o : Bool) : Kd := if o = true then .f else .m
/-- x, y = a, b -/
def dPar (i j : Nat) (oi oj : Bool) (t u : TD) : TSD := fun F e n => t e n fun x m => u e m fun y k => opt (slotOf oi x) fun p => opt (slotOf oj y) fun q => F.nx ((e.set i (some p)).set j (some q)) k
theorem own_other {K : PySem.W.Frag} {H : Hp} {e : En} {n : Nat} {σ : L2.St} {i jj : Nat} {p : S} {v : V} {c : Addr} {m : List D} (g : Good pn K H0 e n σ H) (hc : H c = none) (ne : ∀ l, p = .own l → v ≠ .ref c) (h : (e.set i (some p))[jj]? = some (some (.own m))) :
    (σ.set i (some v))[jj]? ≠ some (some (.ref c)) := by
  by_cases q : i = jj
  · subst q
    by_cases hi : i < e.length
    · rw [List.getElem?_set_self hi] at h
      cases h
      rw [List.getElem?_set_self (by rw [g.len]; exact hi)]
      intro z
      exact ne m rfl (Option.some.inj (Option.some.inj z))
    · rw [List.getElem?_eq_none (by rw [List.length_set]; omega)] at h
      cases h
  · rw [List.getElem?_set_ne q] at h
    rw [List.getElem?_set_ne q]
    exact un_fresh g hc jj m h
theorem psd_par {oi oj : Bool} (i j : Nat) {x y : Str} {px py pt : Pos} {kt k2 : Nat} {pt2 : Pos} (hc : X.calm = true) (hN : X.N.Nodup) (ha : PD X pn H0 (kd oi) a t) (hb : PD X pn H0 (kd oj) b u) (hij : i ≠ j := by decide) (hi : X.N[i]? = some x := by rfl) (hj : X.N[j]? = some y := by rfl)
    (hx : X.env.scope.names.lookup x = some .local := by rfl) (hy : X.env.scope.names.lookup y = some .local := by rfl) (hw : swappedStores [.Tuple [.Name x px, .Name y py] kt pt] (.Tuple [a, b] k2 pt2) X.env = pure (some [x, y]) := by rfl)
    (hs : swapsWithSole [.Tuple [.Name x px, .Name y py] kt pt] (.Tuple [a, b] k2 pt2) pos.line X.env = pure false := by rfl) (s1 : starEach [a, b] X.env = (false, eval a X.env) :: starEach [b] X.env := by rfl) (s2 : starEach [b] X.env = (false, eval b X.env) :: starEach [] X.env := by rfl) :
    PSD X pn H0 rk (.Assign [.Tuple [.Name x px, .Name y py] kt pt] (.Tuple [a, b] k2 pt2) pos) (dPar i j oi oj t u) :=
  ps_wk (ps_par hc hN hi hj hij hx hy (pa_cons ha (pa_cons hb pa_nil s2) s1) hw hs) fun E σ H ⟨en, n, F, gd, ht, q⟩ => ⟨en, n, _, gd, ht, fun v H1 z1 n1 g1 x1 r1 h1 => ⟨en, n1, _, g1, h1, fun w H2 z2 n2 g2 x2 r2 h2 => by
    obtain ⟨p, e1, h3⟩ := opt_some h2
    obtain ⟨p', e2, h4⟩ := opt_some h3
    refine ⟨v, w, rfl, q.nx _ H2 _ n2 ?_ ((x1.trans x2).gr gd.pen) h4⟩
    have first : Good pn X.K H0 (en.set i (some p)) n2 (σ.set i (some v)) H2 ∧ (∀ l, p = .own l → ∃ c, v = .ref c ∧ H1 c ≠ none) := by
      cases oi with
      | false =>
        cases e1
        exact ⟨g2.set (Rep.gr (x2.gr g1.pen) r1), fun l z => nomatch z⟩
      | true =>
        obtain ⟨c, vs, l', rfl, e3, e4, e5, e6⟩ := r1
        subst e3
        cases e1
        exact ⟨g2.setOwn (x2 _ _ e5 (gd.pen.ne e4)) (e6.gr (x2.gr g1.pen)) (good_back gd e4) (gd.pen.ne e4) fun jj m _ hj => un_fresh gd e4 jj m hj, fun l _ => ⟨c, rfl, by rw [e5]; exact fun z => nomatch z⟩⟩
    obtain ⟨gA, hA⟩ := first
    cases oj with
    | false =>
      cases e2
      exact gA.set r2
    | true =>
      obtain ⟨c, vs, l', rfl, e3, e4, e5, e6⟩ := r2
      subst e3
      cases e2
      refine gA.setOwn e5 e6 (good_back g1 e4) (g1.pen.ne e4) fun jj m _ hm => own_other g1 e4 (fun l z => ?_) hm
      obtain ⟨c', e7, e8⟩ := hA l z
      subst e7
      intro z2
      cases z2
      exact e8 e4⟩⟩
end

/-! ### the law's first statement makes the pen -/
/-- the rest answers True -/
def tOpen (cs : List Int) (tabs : List Addr) (K : PySem.W.Frag) (H0 : Hp) (i : Nat) (t0 : TSD) (t1 : List Int → TSD) : TS := fun D σ H =>
  (∃ e n, Good ⟨none, cs, tabs⟩ K H0 e n σ H ∧ t0 ⟨fun e1 m => ∃ (ns : List Int) (k l : Int), e1[i]? = some (some (.own [.lst (ns.map .int), .int k, .int l])) ∧ 0 ≤ k ∧ k ≤ m ∧ 0 ≤ l ∧
    t1 ns ⟨fun _ _ => False, fun x _ => x = .bl true, fun _ _ => False, fun _ _ => False⟩ (e1.set i (some (.d .pen))) m, fun _ _ => False, fun _ _ => False, fun _ _ => False⟩ e n) ∧ ∀ H', D.rt (.bl true) H'
theorem pss_open {X : Cx} {cs : List Int} {tabs : List Addr} {H0 : Hp} {st : Stmt} {rest : List Stmt} {t0 : TSD} {t1 : List Int → TSD} (i : Nat) (h0 : PSD X ⟨none, cs, tabs⟩ H0 .m st t0) (h1 : ∀ a ns, PSDs X ⟨some a, ns, tabs⟩ H0 .m rest (t1 ns)) :
    PSs X (st :: rest) (tOpen cs tabs X.K H0 i t0 t1) := by
  refine ⟨fun pins s σ H D I ⟨⟨e, n, g, ht⟩, hd⟩ => ?_⟩
  have key : PSs X (st :: rest) (fun D σ H => tOpen cs tabs X.K H0 i t0 t1 D σ H) := by
    refine pss_wk (pss_cons (u := fun D σ1 H1 => (∃ a ns e1 m, Good ⟨some a, ns, tabs⟩ X.K H0 e1 m σ1 H1 ∧ t1 ns ⟨fun _ _ => False, fun x _ => x = .bl true, fun _ _ => False, fun _ _ => False⟩ e1 m) ∧ ∀ H', D.rt (.bl true) H') h0
      ⟨fun pins s σ H D I ⟨⟨a, ns, e1, m, g1, w⟩, hd⟩ => (h1 a ns).run pins s σ H D I ⟨e1, m, _, g1, w, ⟨fun _ _ _ _ _ _ z => z.elim, fun v σ' H' y n' e' g' r' z => ?_, fun _ _ _ _ _ _ z => z.elim, fun _ _ _ _ _ _ z => z.elim⟩⟩⟩) fun D σ H ⟨⟨e, n, g, ht⟩, hd⟩ => ⟨e, n, _, g, ht, ⟨fun σ1 H1 e1 m g1 _ ⟨ns, k, l, hi, b1, b2, b3, w⟩ => ?_, fun _ _ _ _ _ _ _ _ z => z.elim, fun _ _ _ _ _ _ z => z.elim, fun _ _ _ _ _ _ z => z.elim⟩⟩
    · subst z
      cases r'
      exact hd H'
    · obtain ⟨a, g2⟩ := good_open g1 hi b1 b2 b3
      exact ⟨⟨a, ns, _, m, g2, w⟩, hd⟩
  exact key.run pins s σ H D I ⟨⟨e, n, g, ht⟩, hd⟩
end VD

set_option Elab.async false
set_option linter.all false
set_option maxRecDepth 100000
set_option maxHeartbeats 4000000
namespace VD
open PySem L2

/-! ### the law is called -/
/-- what is tracked then: the tables of code objects; the script, where it is not the module's -/
def lawH (K : PySem.W.Frag) (a : Addr) (ob : Obj) (ns : List Int) (tabs : List Addr) : Hp := fun b =>
  if b ∈ tabs then some (.tbl #[]) else if b = a ∧ K.lookup a = none then some (.frz ob (.lst (ns.map V.int))) else none
structure LawIn (K : PySem.W.Frag) (mg mb : Str → Option Value) (cs : List (Addr × Addr)) (s : Shared) (a : Addr) (vs : List Value) (ns : List Int) : Prop where
  kin : K.In s.heap
  glob : s.heap.Ns mainGlobals mg
  blt : s.heap.Ns builtinsNs mb
  same : ∀ x : Str, x ≠ "__name__" → mb x = bootBuiltins x
  lim : s.heap.NoLimit
  tab : ∀ p ∈ cs, s.heap.get? p.2 = some { cls := .none, data := .fields #[] }
  tabK : ∀ p ∈ cs, K.lookup p.2 = none
  code : ∀ p ∈ cs, PySem.W.CodeHd s.heap p.1 p.2
  main : ∃ (bm : Addr) (ob : Obj), mg "__builtins__" = some (.ref bm) ∧ bm ≠ builtinsNs ∧ s.heap.get? bm = some ob ∧ ob.cls = .type "module" ∧ ob.dict = some builtinsNs ∧ ob.data = .plain
  scr : s.heap.get? a = some { cls := .type "list", data := .seq vs.toArray }
  nums : PyProof.Rows.IntsAre vs ns
  len : ns.length ≤ sizeLine
  gens : s.gens = #[]
section
variable {P : Program} {w : World} {K : PySem.W.Frag} {mg mb : Str → Option Value} {cs : List (Addr × Addr)} {s : Shared} {a : Addr} {vs : List Value} {ns : List Int}
abbrev lawH' (K : PySem.W.Frag) (cs : List (Addr × Addr)) (a : Addr) (vs : List Value) (ns : List Int) : Hp := lawH K a { cls := .type "list", data := .seq vs.toArray } ns (cs.map (·.2))
theorem lawH_tab {b : Addr} (h : b ∈ cs.map (·.2)) : lawH' K cs a vs ns b = some (.tbl #[]) := if_pos h
theorem LawIn.at_tab (L : LawIn K mg mb cs s a vs ns) {b : Addr} (h : b ∈ cs.map (·.2)) : s.heap.get? b = some { cls := .none, data := .fields #[] } := by
  obtain ⟨p, hp, rfl⟩ := List.mem_map.mp h
  exact L.tab p hp
theorem LawIn.apart (L : LawIn K mg mb cs s a vs ns) : a ∉ cs.map (·.2) := fun h => by
  have z := (L.at_tab h).symm.trans L.scr
  cases congrArg Obj.data (Option.some.inj z)
theorem lawH_some {b : Addr} {u : HO} (h : lawH' K cs a vs ns b = some u) : (b ∈ cs.map (·.2) ∧ u = .tbl #[]) ∨ (b = a ∧ K.lookup a = none ∧ u = .frz { cls := .type "list", data := .seq vs.toArray } (.lst (ns.map V.int))) := by
  have h : (if b ∈ cs.map (·.2) then some (HO.tbl #[]) else if b = a ∧ K.lookup a = none then some (.frz { cls := .type "list", data := .seq vs.toArray } (.lst (ns.map V.int))) else none) = some u := h
  split at h
  · rename_i q
    cases h
    exact .inl ⟨q, rfl⟩
  · split at h
    · rename_i q
      cases h
      exact .inr ⟨q.1, q.2, rfl⟩
    · cases h
/-- what is neither a list nor an empty table is not tracked -/
theorem LawIn.free (L : LawIn K mg mb cs s a vs ns) {b : Addr} {o : Obj} (e : s.heap.get? b = some o) (h1 : ∀ us n, o.data ≠ .seq us n) (h2 : o.data ≠ .fields #[]) : lawH' K cs a vs ns b = none := by
  cases q : lawH' K cs a vs ns b with
  | none => rfl
  | some u =>
    rcases lawH_some q with ⟨z, _⟩ | ⟨z, _⟩
    · rw [L.at_tab z] at e
      cases e
      exact (h2 rfl).elim
    · rw [z, L.scr] at e
      cases e
      exact (h1 _ _ rfl).elim
theorem LawIn.freeK (L : LawIn K mg mb cs s a vs ns) {b : Addr} {o : Obj} (e : K.lookup b = some o) : lawH' K cs a vs ns b = none := by
  cases q : lawH' K cs a vs ns b with
  | none => rfl
  | some u =>
    rcases lawH_some q with ⟨z, _⟩ | ⟨z, z2, _⟩
    · obtain ⟨p, hp, rfl⟩ := List.mem_map.mp z
      rw [L.tabK p hp] at e
      cases e
    · rw [z, z2] at e
      cases e
theorem LawIn.nsAt (L : LawIn K mg mb cs s a vs ns) {b : Addr} {m : Str → Option Value} (h : s.heap.Ns b m) : (hidT s.heap (lawH' K cs a vs ns)).Ns b m := by
  obtain ⟨o, es, ep, e, d, r⟩ := h
  exact ⟨o, es, ep, hidT_get e (L.free e (fun us n z => by rw [d] at z; cases z) fun z => by rw [d] at z; cases z), d, r⟩
theorem LawIn.mod (L : LawIn K mg mb cs s a vs ns) : Mod K mg (hidT s.heap (lawH' K cs a vs ns)) :=
  ⟨fun b o e => hidT_get (L.kin b o e) (L.freeK e), L.nsAt L.glob, ⟨mb, L.nsAt L.blt, L.same⟩, let ⟨mc, h1, h2⟩ := L.lim; ⟨mc, L.nsAt h1, h2⟩⟩
theorem LawIn.tabB (L : LawIn K mg mb cs s a vs ns) : ∀ p ∈ cs, GxR.TabB (hidT s.heap (lawH' K cs a vs ns)) mg p.1 p.2 := fun p hp => by
  have ht := L.tab p hp
  refine ⟨?_, ?_, fun z => ?_⟩
  · obtain ⟨o, us, fi, tf, fg, tg, nf, tx, tt, e1, r1, r2, r3, r⟩ := L.code p hp
    refine ⟨o, us, fi, tf, fg, tg, nf, tx, tt, hidT_get e1 (L.free e1 (fun vs n z => by rw [r2] at z; cases z) fun z => ?_), r1, r2, r3, r⟩
    rw [r2] at z
    cases z
    simp at r3
  · obtain ⟨bm, ob, b1, b2, b3, b4, b5, b6⟩ := L.main
    have nG : bm ≠ mainGlobals := fun q => by
      obtain ⟨o, es, ep, e, hd, _⟩ := L.glob
      rw [q, e] at b3
      cases b3
      rw [hd] at b6
      cases b6
    have nP : bm ≠ p.2 := fun q => by
      rw [q, ht] at b3
      cases b3
      cases b6
    exact ⟨bm, ob, b1, b2, nG, nP, hidT_get b3 (L.free b3 (fun us n z => by rw [b6] at z; cases z) fun z => by rw [b6] at z; cases z), b4, b5, b6⟩
  · obtain ⟨o, es, ep, e, hd, _⟩ := L.glob
    rw [z, ht] at e
    cases e
    cases hd
theorem LawIn.hok (L : LawIn K mg mb cs s a vs ns) : HOk P w (lawH' K cs a vs ns) s.heap := fun b u q => by
  rcases lawH_some q with ⟨z, e⟩ | ⟨z, _, e⟩
  · rw [e]
    exact L.at_tab z
  · rw [e, z]
    exact ⟨L.scr, by rw [List.length_map]; exact L.len, vs, _, vals_ints L.nums, L.scr⟩
theorem LawIn.ro (L : LawIn K mg mb cs s a vs ns) : RoL K (lawH' K cs a vs ns) a (ns.map V.int) := by
  cases q : K.lookup a with
  | none => exact .inl ⟨_, (if_neg L.apart).trans (if_pos ⟨rfl, q⟩)⟩
  | some o =>
    have e := L.kin a o q
    rw [L.scr] at e
    cases e
    exact .inr ⟨_, vs.toArray, _, q, rfl, rfl, rfl, by rw [List.size_toArray, L.nums.length]; exact L.len, by simpa using vals_ints L.nums⟩
/-- the law's promise: True at every script -/
def spL (tabs : List Addr) : PySem.W.Frag → Sp := fun K vs H Q _ => ∃ (a : Addr) (ns : List Int), vs = [.ref a] ∧ RoL K H a (ns.map V.int) ∧ ns.length ≤ 63 ∧ (∀ z ∈ ns, Builtin.Int.intBits z ≤ 1048576) ∧ (∀ T ∈ tabs, GxR.TabG H T) ∧ ∀ H', Q (.bl true) H'
theorem law_called {k : Nat} {fa : Addr} {fd : FuncData} {x : Str} (L : LawIn K mg mb cs s a vs ns) (h63 : ns.length ≤ 63) (hbits : ∀ z ∈ ns, Builtin.Int.intBits z ≤ 1048576) (hr : Room k PySem.callerA)
    (F : ∀ base : Heap, K.In base → base.Ns mainGlobals mg → (∀ p ∈ cs, GxR.TabB base mg p.1 p.2) → FnG P w K mg base CX0 k fa fd [x] (spL (cs.map (·.2)) K)) (hb : ∀ (s : Shared) (u : Value), BindsTo s fd ⟨[u], []⟩ [(x, u)]) :
    codeAny (model P w) PySem.callerA (.call (.ref fa) ⟨[.ref a], []⟩) (fun r s' => r = .ok (.ret (.bool true)) ∧ OldK s.heap s'.heap ∧ s'.os = s.os ∧ PyProof.Rows.AllBare s'.gens) s := by
  have e0 : Env0 P w K mg (hidT s.heap (lawH' K cs a vs ns)) PySem.callerA [] s (lawH' K cs a vs ns) :=
    ⟨rfl, L.mod, fun b o e => of_hidT e, Nat.le_of_eq (hidT_size _ _), trivial, fun b hb => absurd (show b ∈ ([] : List Addr) from hb) List.not_mem_nil, L.hok, .of_eq L.gens⟩
  refine codeAny_mono ((F _ L.mod.kin (L.nsAt L.glob) L.tabB).run PySem.callerA [] s (lawH' K cs a vs ns) ⟨[.ref a], []⟩ [.ref a] [.ref a] (fun v _ => v = .bl true) (fun _ _ _ => False) hr rfl e0 (hb s (.ref a)) (.cons rfl .nil)
    ⟨a, ns, rfl, L.ro, h63, hbits, fun T hT => ⟨#[], lawH_tab hT, trivial⟩, fun _ => rfl⟩) fun r s' h => ?_
  cases r with
  | error e => exact False.elim h
  | ok fl =>
    cases fl with
    | next => exact False.elim h
    | brk => exact False.elim h
    | cont => exact False.elim h
    | ret u =>
      obtain ⟨v, H', os, bare, un, hok', r', rfl⟩ := h
      cases r'
      have kept : ∀ b o, b ∉ cs.map (·.2) → s.heap.get? b = some o → s'.heap.get? b = some o := fun b o nb e => by
        cases q : lawH' K cs a vs ns b with
        | none => exact un.keep b o e q (fun z => absurd (show b ∈ ([] : List Addr) from z) List.not_mem_nil) List.not_mem_nil
        | some u =>
          rcases lawH_some q with ⟨z, _⟩ | ⟨z, _, z2⟩
          · exact absurd z nb
          · rw [z2] at q
            have e2 := (hok' b _ (un.frzs b _ _ q)).1
            rw [z, L.scr] at e
            cases e
            exact e2
      have more : ∀ b ∈ cs.map (·.2), ∃ ps : Array Value, s'.heap.get? b = some { cls := .none, data := .fields ps } := fun b hb => by
        obtain ⟨ps, z⟩ := un.tbls b #[] (lawH_tab hb)
        exact ⟨_, hok' b _ z⟩
      refine ⟨rfl, ⟨fun b o e => ?_, fun b o e => ?_⟩, os, bare⟩
      · by_cases hb : b ∈ cs.map (·.2)
        · obtain ⟨ps, hm⟩ := more b hb
          rw [L.at_tab hb] at e
          cases e
          obtain ⟨p, hp, rfl⟩ := List.mem_map.mp hb
          exact .inr (.inl ⟨((L.code p hp).tab (L.tab p hp)).isCodeTable, rfl, #[], ps, rfl, by rw [Array.empty_append]; exact hm⟩)
        · exact .inl (kept b o hb e)
      · by_cases hb : b ∈ cs.map (·.2)
        · obtain ⟨ps, hm⟩ := more b hb
          exact ⟨_, hm⟩
        · exact ⟨o, kept b o hb e⟩
end

/-! ### the end of a law's row -/
/-- what the head must hand over of the law at its heap h -/
def LawHas (l : PySem.W.OpenLaw) (w : World) (K : PySem.W.Frag) (k : Nat) (x : Str) (mg : Str → Option Value) (fa : Addr) (h : Heap) : Prop :=
  ∃ (fd : FuncData) (cs : List (Addr × Addr)), (∀ p ∈ cs, h.get? p.2 = some { cls := .none, data := .fields #[] } ∧ K.lookup p.2 = none ∧ PySem.W.CodeHd h p.1 p.2) ∧ (∀ (s : Shared) (u : Value), BindsTo s fd ⟨[u], []⟩ [(x, u)]) ∧
    ∀ base : Heap, K.In base → base.Ns mainGlobals mg → (∀ p ∈ cs, GxR.TabB base mg p.1 p.2) → FnG l.prog w K mg base CX0 k fa fd [x] (spL (cs.map (·.2)) K)
theorem walk_of {l : PySem.W.OpenLaw} {k : Nat} {q : Program} {loose : List Str} {XP : (Str → Option Value) → Heap → Prop} {YP : World → Heap → Prop} {d : DefRec} {K : Params → PySem.W.Frag} {x : Str}
    (hn : l.most = some 63) (hdf : d.params.defaults = []) (hr : Room k PySem.callerA) (hY : ∀ (w : World) (h : Heap), YP w h → (K w.params).In h)
    (F : ∀ (w : World) (mg : Str → Option Value) (fa : Addr) (h : Heap), YP w h → (K w.params).In h → h.Ns mainGlobals mg → mg d.name = some (.ref fa) → LawHas l w (K w.params) k x mg fa h) :
    PySem.W.WalkO q loose XP YP l.row.toRowW d [] (fun f vs => PySem.call f vs) :=
  Att.attach_callB hn hdf fun w s0 s1 mg mb fa o pm cd doc a vs ns G Y _ _ _ hmg hobj hints hlen hbits hg => by
    obtain ⟨fd, cs, hc, hb, hF⟩ := F w mg fa _ Y (hY w _ Y) G.T.g hmg
    exact law_called ⟨hY w _ Y, G.T.g, G.T.b, G.T.builtins, G.T.nolimit, fun p hp => (hc p hp).1, fun p hp => (hc p hp).2.1, fun p hp => (hc p hp).2.2, G.T.bmain, hobj, hints, Nat.le_trans hlen (by rw [sizeLine_eq]; omega), hg⟩ hlen hbits hr hF hb
end VD

set_option Elab.async false
set_option linter.all false
set_option maxRecDepth 100000
set_option maxHeartbeats 4000000
namespace VD
open PySem L2

/-! ### a def that makes generators -/
section
variable {P : Program} {w : World} {K : PySem.W.Frag} {mg : Str → Option Value} {base : Heap} {CX : CXT} {k : Nat} {f c : Addr} {fd : FuncData} {x ql : Str} {st : Stmt} {N ps : List Str} {pn : Pw}
theorem ok_mC (F : Fun K x ql st f fd) (hc : fd.code = .ref c) (S : FnScope N ps (defScope st)) (t : EK → TSD)
    (hb : ∀ (A : Around) (outer : List Env) (s : Shared) (H : Hp) (E : XK) (Ed : EK), Room k (cxOf CX P w K mg base N ql (defScope st) f (.ref c) A outer s H E).A → (cxOf CX P w K mg base N ql (defScope st) f (.ref c) A outer s H E).A.guards = some [] → ELead pn K H Ed E →
      PSDs (cxOf CX P w K mg base N ql (defScope st) f (.ref c) A outer s H E) pn H .m (defBody st) (t Ed)) :
    FnG P w K mg base CX (k + 1) f fd ps (spD ps.length pn K .m (bodyTF N.length t)) := by
  have hpl : ps.length ≤ N.length := by
    have z := congrArg List.length S.pre
    rw [List.length_take] at z
    omega
  obtain ⟨oc, od, kV, doc, pm, an, cdv, ct, osl, rfl, lk, hcd⟩ := F.ex
  have e : cdv = .ref c := hc
  subst e
  refine fnG_of lk hcd S (spD_len rfl) fun A outer s H vs Q E hr hg ⟨l, n, Qd, Ed, r, p, hl, ht, hq, he⟩ => ?_
  refine ⟨_, hb A outer s H E Ed hr hg he, startE N.length l, n, _, good_start r p (by rw [hl]; exact hpl), ht, ?_⟩
  exact ⟨fun σ' H' e' n' g' _ q' => hq .non H' .non n' g'.stay g'.pen .non q', fun v σ' H' y n' e' g' r' q' => hq v H' y n' g'.stay g'.pen r' q', fun _ _ _ _ _ _ z => z.elim, fun _ _ _ _ _ _ z => z.elim⟩
variable {cdv : Value} {A : Around} {outer : List Env} {s : Shared} {H : Hp} {E : XK} {scope sc : Scope} {y : Str} {cs : List (Str × Nat)}
theorem gens_of (h1 : scope.kind = .function) (h2 : scope.isCoroutine = false) (h3 : ∀ z ∈ scope.names, z.2 ≠ .cell) (h4 : scope.names.lookup (".0" : Str) = some NameKind.local) (h5 : scope.names.lookup y = some .local) (h6 : ∀ z ∈ scope.names, z.2 = .free → sc.names.lookup z.1 = some .cell) :
    GxR.GenS (cxOf CX P w K mg base N ql sc f cdv A outer s H E).env scope y := ⟨h1, h2, h3, h4, h5, fun z hz e => cell_has (h6 z hz e)⟩
theorem caps_of (h1 : ∀ p ∈ cs, N[p.2]? = some p.1) (h2 : ∀ p ∈ cs, (p.1, NameKind.free) ∈ scope.names) (h3 : ∀ p ∈ cs, scope.names.lookup p.1 = some .free) (h4 : ∀ p ∈ cs, sc.names.lookup p.1 = some .cell) :
    Caps (cxOf CX P w K mg base N ql sc f cdv A outer s H E) scope cs := ⟨h1, h2, h3, h4⟩
end
theorem boot_all : bootBuiltins "all" = some (.builtin "all") := by decide +kernel
theorem boot_any : bootBuiltins "any" = some (.builtin "any") := by decide +kernel
theorem pd_globI {X : Cx} {pn : Pw} {H0 : Hp} {x : Str} {i : Int} {o : Tok} {pos : Pos} (hg : Gl X x) (hm : X.mg x = some (.int i o)) (hd : (x == ("__debug__" : Str)) = false := by decide) : PD X pn H0 .m (.Name x pos) (dC (.int i)) := pd_glob (v := .int i) hg hm ⟨o, rfl⟩ (fun _ => .int i) hd

/-! ### errors that leave a def -/
theorem takes_cx {P : Program} {w : World} {K : PySem.W.Frag} {mg : Str → Option Value} {base : Heap} {N : List Str} {ql : Str} {sc : Scope} {f : Addr} {cdv : Value} {A : Around} {outer : List Env} {s : Shared} {H : Hp} {E : XK} :
    Takes (cxOf (L2.CX P w) P w K mg base N ql sc f cdv A outer s H E) (fun cls d _ H => E cls d H) := takes_of rfl rfl rfl rfl
/-- raise C('..'), C without an __init__ of its own -/
theorem psd_raiseN {X : Cx} {pn : Pw} {H0 : Hp} {rk : Kd} {E : XK} {Ed : EK} {C : Addr} {x m : Str} {j : Nat} {p p2 pos pos2 : Pos} (hc : X.calm = true) (tk : Takes X fun cls d _ H => E cls d H) (hE : ELead pn X.K H0 Ed E) (E0 : Exc0 X.K C) (gC : X.mg x = some (.ref C)) (hg : Gl X x) (hdb : (x == ("__debug__" : Str)) = false := by decide) :
    PSD X pn H0 rk (.Raise (some (.Call (.Name x p) [.Constant (.str m) j p2] [] pos)) none pos2) (dRaise C Ed) :=
  let ⟨_, _, _, _, F, q⟩ := E0.ok
  psd_raise hc tk hE (pmk_own F q gC E0.kp (raises_own E0.sub E0.ty) hg hdb)
end VD

set_option Elab.async false
set_option linter.all false
set_option maxRecDepth 100000
set_option maxHeartbeats 4000000
namespace VD
open PySem L2

/-! ### [.. for .. in .. for .. in ..] -/
/-- a target makes no list its own -/
def GOk (g : GD) (ws : List Nat) : Prop := ∀ x e e', g x e = some e' → ∀ (j : Nat) m, e'[j]? = some (some (.own m)) → e[j]? = some (some (.own m)) ∧ j ∉ ws
theorem gok_nm (i : Nat) : GOk (gNm i) [i] := fun x e e' h j m q => by
  cases h
  by_cases c : i = j
  · subst c
    by_cases hl : i < e.length
    · rw [List.getElem?_set_self hl] at q
      cases q
    · rw [List.getElem?_eq_none (by rw [List.length_set]; omega)] at q
      cases q
  · rw [List.getElem?_set_ne c] at q
    exact ⟨q, fun z => c (List.mem_singleton.mp z).symm⟩
def GsOk (g : List D → En → Option En) (ws : List Nat) : Prop := ∀ l e e', g l e = some e' → ∀ (j : Nat) m, e'[j]? = some (some (.own m)) → e[j]? = some (some (.own m)) ∧ j ∉ ws
theorem gsok_nil : GsOk gNl [] := fun l e e' h j m q => by
  cases l with
  | nil =>
    cases h
    exact ⟨q, List.not_mem_nil⟩
  | cons x l => cases h
theorem gsok_cons {g : GD} {k : List D → En → Option En} {ws vs : List Nat} (h1 : GOk g ws) (h2 : GsOk k vs) : GsOk (gCn g k) (ws ++ vs) := fun l e e' h j m q => by
  cases l with
  | nil => cases h
  | cons x l =>
    obtain ⟨e1, q1, q2⟩ := Option.bind_eq_some_iff.mp (show ((g x e).bind fun e2 => k l e2) = some e' from h)
    obtain ⟨a1, a2⟩ := h2 l e1 e' q2 j m q
    obtain ⟨b1, b2⟩ := h1 x e e1 q1 j m a1
    exact ⟨b1, fun z => (List.mem_append.mp z).elim b2 a2⟩
theorem gok_tup {g : List D → En → Option En} {ws : List Nat} (h : GsOk g ws) : GOk (gTp g) ws := fun x e e' q => by
  unfold gTp at q
  split at q
  · exact h _ _ _ q
  · cases q
def dLcI (g1 : GD) (c1 : TTD) (te : TD) (e0 : En) : List D → List D → Nat → (List D → Nat → Prop) → Prop
  | [], acc, m, K => K acc m
  | x :: xs, acc, m, K => opt (g1 x e0) fun e' => c1 e' m fun b m1 => if b = true then te e' m1 fun y m2 => acc.length < 100000 ∧ dLcI g1 c1 te e0 xs (acc ++ [y]) m2 K else dLcI g1 c1 te e0 xs acc m1 K
def dLcO (g : GD) (c : TTD) (ti1 : TID) (vs1 : List Nat) (g1 : GD) (c1 : TTD) (te : TD) (e0 : En) : List D → List D → Nat → DK → Prop
  | [], acc, m, Q => Q (.lst acc) m
  | x :: xs, acc, m, Q => opt (g x e0) fun e' => c e' m fun b m1 => if b = true then ti1 e' m1 fun l1 m2 => dLcI g1 c1 te (wipeE e' vs1) l1 acc m2 fun acc' m3 => dLcO g c ti1 vs1 g1 c1 te e0 xs acc' m3 Q else dLcO g c ti1 vs1 g1 c1 te e0 xs acc m1 Q
def dLc2 (ti : TID) (vs : List Nat) (g : GD) (c : TTD) (ti1 : TID) (vs1 : List Nat) (g1 : GD) (c1 : TTD) (te : TD) : TD := fun e n Q => ti e n fun l m => dLcO g c ti1 vs1 g1 c1 te (wipeE e vs) l [] m Q
theorem wipeE_own {e : En} : ∀ (vs : List Nat) (j : Nat) m, (wipeE e vs)[j]? = some (some (S.own m)) → e[j]? = some (some (.own m)) ∧ j ∉ vs
  | [], j, m, h => ⟨h, List.not_mem_nil⟩
  | v :: vs, j, m, h => by
    have h : ((wipeE e vs).set v none)[j]? = some (some (S.own m)) := h
    by_cases c : v = j
    · subst c
      by_cases hl : v < (wipeE e vs).length
      · rw [List.getElem?_set_self hl] at h
        cases h
      · rw [List.getElem?_eq_none (by rw [List.length_set]; omega)] at h
        cases h
    · rw [List.getElem?_set_ne c] at h
      obtain ⟨h1, h2⟩ := wipeE_own vs j m h
      exact ⟨h1, fun z => (List.mem_cons.mp z).elim (fun z => c z.symm) h2⟩
section
variable {X : Cx} {pn : Pw} {H0 : Hp} {elt tg iter tg1 iter1 : Expr} {ifs ifs1 : List Expr} {scope : Scope} {own : List (Str × Nat)} {vs1 : List Nat} {pos : Pos} {ti ti1 : TID} {g g1 : GD} {c c1 : TTD} {te : TD} {ws ws1 : List Nat}
theorem up_lc2 {K : PySem.W.Frag} (hw : ∀ j ∈ ws, j ∈ own.map (·.2)) (hw1 : ∀ j ∈ ws1, j ∈ vs1) (go : GOk g ws) {σ : L2.St} {H : Hp} {Q : VK} (h : up pn H0 K .f (dLc2 ti (own.map (·.2)) g c ti1 vs1 g1 c1 te) σ H Q) :
    tLc2 (upI pn H0 K ti) (upG pn H0 K ws g) (upT pn H0 K c) (upI pn H0 K ti1) (upG pn H0 K ws1 g1) (upT pn H0 K c1) (up pn H0 K .m te) (own.map (·.2)) vs1 σ H Q := by
  obtain ⟨e, n, Qd, gd, ht, q⟩ := h
  refine ⟨e, n, _, gd, ht, fun J H1 l n1 g1' x1 it h1 D hD => ?_⟩
  have D0 : H0 D = none := good_back g1' hD
  have Dp : ¬ Own pn D := g1'.pen.ne hD
  have Dun := un_fresh g1' hD
  have DH : H D = none := fresh_back x1 g1'.pen hD
  refine ⟨fun i m H' => i + m = l.length ∧ Gr H1 H' ∧ Xt pn H H' ∧ ∃ n' acc vs, Good pn K H0 e n' σ H' ∧ H' D = some (.lst vs) ∧ Reps pn K H' vs acc ∧ dLcO g c ti1 vs1 g1 c1 te (wipeE e (own.map (·.2))) (l.drop i) acc n' Qd,
    ⟨l.length, by omega, Gr.new hD, x1.trans (Xt.new hD), n1, [], [], g1'.new hD, upd_same, .nil, h1⟩, ?_⟩
  rintro i m H' ⟨him, gr, xt, n', acc, vs, g', hd, ra, h'⟩
  by_cases hlt : i < l.length
  · refine .inr ⟨it.go H' i gr hlt, fun H2 => Gr H1 H2 ∧ Xt pn H H2 ∧ ∃ n2 acc2 vs2, Good pn K H0 e n2 σ H2 ∧ H2 D = some (.lst vs2) ∧ Reps pn K H2 vs2 acc2 ∧ dLcO g c ti1 vs1 g1 c1 te (wipeE e (own.map (·.2))) (l.drop (i + 1)) acc2 n2 Qd,
      fun H2 ⟨a1, a2, n2, acc2, vs2, a3, a4, a5, a7⟩ => ⟨m - 1, by omega, by omega, a1, a2, n2, acc2, vs2, a3, a4, a5, a7⟩, fun x H2 y => ?_⟩
    obtain ⟨d, hdd, rd, hy⟩ := it.yl H' i x H2 gr hlt y
    have hcons : l.drop i = d :: l.drop (i + 1) := by
      rw [List.drop_eq_getElem_cons (l := l) hlt]
      rw [List.getElem?_eq_getElem hlt] at hdd
      rw [Option.some.inj hdd]
    rw [hcons] at h'
    obtain ⟨e2, he2, h2⟩ := opt_some h'
    obtain ⟨g2, gr2⟩ := g'.yld hy
    have x2 : Xt pn H' H2 := by
      rcases hy with rfl | ⟨p, o, hp, rfl⟩
      · exact Xt.refl _ _
      · exact Xt.new hp
    refine ⟨_, n', d, e2, g2.wiped _, rd, he2, fun σ3 g3 k3 => ⟨?_, e2, n', _, g3, h2, fun b H3 n3 g4 x3 h3 => ?_⟩⟩
    · rw [wipe_alike (σ := wipe σ (own.map (·.2))) (vs := own.map (·.2)) (ws := ws) k3.1 hw k3.2, wipe_wipe]
    · have hd2 := x2 _ _ hd Dp
      have hd3 := x3 _ _ hd2 Dp
      have gr3 := x3.gr g3.pen
      have g5 := g2.xt x3 g4.pen
      -- no own slot of the inner frame is the new list
      have un2 : ∀ (j : Nat) w, e2[j]? = some (some (.own w)) → σ3[j]? ≠ some (some (.ref D)) := fun j w hj z => by
        obtain ⟨b1, b2⟩ := go d _ e2 he2 j w hj
        obtain ⟨b3, b4⟩ := wipeE_own _ j w b1
        rw [k3.2 j b2, wipe_get, if_neg fun z2 => b4 z2.1] at z
        exact Dun j w b3 z
      cases b with
      | false =>
        rw [if_neg Bool.false_ne_true] at h3
        exact iteF ⟨(gr.trans gr2).trans gr3, (xt.trans x2).trans x3, n3, acc, vs, g5, hd3, ra.gr (gr2.trans gr3), h3⟩
      | true =>
        rw [if_pos rfl] at h3
        refine iteT ⟨e2, n3, _, g4, h3, fun J1 H4 l1 n4 g6 x4 it1 h4 => ?_⟩
        have gr4 := x4.gr g4.pen
        have hd4 := x4 _ _ hd3 Dp
        refine ⟨fun j k Hx => j + k = l1.length ∧ Gr H4 Hx ∧ Gr H1 Hx ∧ Xt pn H Hx ∧ ∃ nx ax vx, Good pn K H0 e nx σ Hx ∧ Good pn K H0 e2 nx σ3 Hx ∧ Hx D = some (.lst vx) ∧ Reps pn K Hx vx ax ∧ dLcI g1 c1 te (wipeE e2 vs1) (l1.drop j) ax nx fun acc' m3 => dLcO g c ti1 vs1 g1 c1 te (wipeE e (own.map (·.2))) (l.drop (i + 1)) acc' m3 Qd,
          ⟨l1.length, by omega, Gr.refl _, ((gr.trans gr2).trans gr3).trans gr4, ((xt.trans x2).trans x3).trans x4, n4, acc, vs, g5.xt x4 g6.pen, g6, hd4, ra.gr ((gr2.trans gr3).trans gr4), h4⟩, ?_⟩
        rintro j k Hx ⟨hjk, grx, gr1x, xtx, nx, ax, vx, gx, gy, hdx, rx, hx⟩
        by_cases hj : j < l1.length
        · refine .inr ⟨it1.go Hx j grx hj, fun Hz => Gr H4 Hz ∧ Gr H1 Hz ∧ Xt pn H Hz ∧ ∃ nz az vz, Good pn K H0 e nz σ Hz ∧ Good pn K H0 e2 nz σ3 Hz ∧ Hz D = some (.lst vz) ∧ Reps pn K Hz vz az ∧ dLcI g1 c1 te (wipeE e2 vs1) (l1.drop (j + 1)) az nz fun acc' m3 => dLcO g c ti1 vs1 g1 c1 te (wipeE e (own.map (·.2))) (l.drop (i + 1)) acc' m3 Qd,
            fun Hz z => ⟨k - 1, by omega, by omega, z⟩, fun x' H5 y' => ?_⟩
          obtain ⟨d', hdd', rd', hy'⟩ := it1.yl Hx j x' H5 grx hj y'
          have hcons' : l1.drop j = d' :: l1.drop (j + 1) := by
            rw [List.drop_eq_getElem_cons (l := l1) hj]
            rw [List.getElem?_eq_getElem hj] at hdd'
            rw [Option.some.inj hdd']
          rw [hcons'] at hx
          obtain ⟨e6, he6, h6⟩ := opt_some hx
          obtain ⟨gx5, gr5⟩ := gx.yld hy'
          obtain ⟨gy5, _⟩ := gy.yld hy'
          have x5 : Xt pn Hx H5 := by
            rcases hy' with rfl | ⟨p, o, hp, rfl⟩
            · exact Xt.refl _ _
            · exact Xt.new hp
          have hd5 := x5 _ _ hdx Dp
          refine ⟨_, nx, d', e6, gy5.wiped _, rd', he6, fun σ6 g7 k7 => ⟨?_, e6, nx, _, g7, h6, fun b' H6 n6 g8 x6 h7 => ?_⟩⟩
          · rw [wipe_alike (σ := wipe σ3 vs1) (vs := vs1) (ws := ws1) k7.1 hw1 k7.2, wipe_wipe]
          · have hd6 := x6 _ _ hd5 Dp
            have gr6 := x6.gr g7.pen
            have gx6 := gx5.xt x6 g8.pen
            have gy6 := gy5.xt x6 g8.pen
            cases b' with
            | false =>
              rw [if_neg Bool.false_ne_true] at h7
              exact iteF ⟨(grx.trans gr5).trans gr6, (gr1x.trans gr5).trans gr6, (xtx.trans x5).trans x6, n6, ax, vx, gx6, gy6, hd6, rx.gr (gr5.trans gr6), h7⟩
            | true =>
              rw [if_pos rfl] at h7
              refine iteT ⟨e6, n6, _, g8, h7, fun yv H7 yd n7 g9 x7 r7 h8 => ?_⟩
              obtain ⟨hlen, h8⟩ := h8
              have gr7 := x7.gr g8.pen
              have hd7 := x7 _ _ hd6 Dp
              have rx7 := rx.gr ((gr5.trans gr6).trans gr7)
              have gx7 := gx6.xt x7 g9.pen
              have gy7 := gy6.xt x7 g9.pen
              have grm : Gr H7 (upd H7 D (.lst (vx ++ [yv]))) := Gr.mut hd7 fun z => z
              refine ⟨vx, hd7, ?_, (((grx.trans gr5).trans gr6).trans gr7).trans grm, (((gr1x.trans gr5).trans gr6).trans gr7).trans grm, fun b o hb hn => ?_, n7, ax ++ [yd], vx ++ [yv], gx7.side hd7 D0 Dp Dun, gy7.side hd7 D0 Dp un2, upd_same, (rx7.append (.cons r7 .nil)).gr grm, h8⟩
              · rw [rx7.length]
                exact Nat.lt_of_lt_of_le (show ax.length < 100001 by omega) (by decide)
              · rw [upd_ne (ne_of_none hb DH)]
                exact (((xtx.trans x5).trans x6).trans x7) b o hb hn
        · have ej : j = l1.length := by omega
          refine .inl ⟨by rw [ej]; exact it1.st Hx grx, ?_⟩
          have : l1.drop j = [] := List.drop_eq_nil_of_le (by omega)
          rw [this] at hx
          exact ⟨gr1x, xtx, nx, ax, vx, gx, hdx, rx, hx⟩
  · have ei : i = l.length := by omega
    refine .inl ⟨by rw [ei]; exact it.st H' gr, ?_⟩
    have : l.drop i = [] := List.drop_eq_nil_of_le (by omega)
    rw [this] at h'
    exact q _ H' _ n' g' xt ⟨D, vs, acc, rfl, rfl, DH, hd, ra⟩ h'
theorem pd_lc2 (hc : X.calm = true) (hN : X.N.Nodup) (hi : PID X pn H0 tg iter ti) (ok : BlkOk X.N X.env.scope scope own) (hv : ∀ i ∈ vs1, i ∈ own.map (·.2)) (hw : ∀ j ∈ ws, j ∈ own.map (·.2)) (hw1 : ∀ j ∈ ws1, j ∈ vs1) (go : GOk g ws)
    (hg : ∀ (s : Shared) (H : Hp) (C : Addr) (cl : List (Str × Addr)) (fp : List Addr), PGD (X.blk s H scope (compEnvC scope cl C X.env) fp) pn H0 ws tg g) (ht : ∀ (s : Shared) (H : Hp) (C : Addr) (cl : List (Str × Addr)) (fp : List Addr), PTDs (X.blk s H scope (compEnvC scope cl C X.env) fp) pn H0 ifs c)
    (hi1 : ∀ (s : Shared) (H : Hp) (C : Addr) (cl : List (Str × Addr)) (fp : List Addr), PID (X.blk s H scope (compEnvC scope cl C X.env) fp) pn H0 tg1 iter1 ti1)
    (hg1 : ∀ (s : Shared) (H : Hp) (C : Addr) (cl : List (Str × Addr)) (fp : List Addr), PGD (X.blk s H scope (compEnvC scope cl C X.env) fp) pn H0 ws1 tg1 g1) (ht1 : ∀ (s : Shared) (H : Hp) (C : Addr) (cl : List (Str × Addr)) (fp : List Addr), PTDs (X.blk s H scope (compEnvC scope cl C X.env) fp) pn H0 ifs1 c1)
    (he : ∀ (s : Shared) (H : Hp) (C : Addr) (cl : List (Str × Addr)) (fp : List Addr), PD (X.blk s H scope (compEnvC scope cl C X.env) fp) pn H0 .m elt te) (hs : ∀ x, foldedSetIterable iter X.env x = pure x := by intro _; rfl) (hs1 : ∀ env x, foldedSetIterable iter1 env x = pure x := by intro _ _; rfl) :
    PD X pn H0 .f (.ListComp elt [⟨tg, iter, ifs, 0⟩, ⟨tg1, iter1, ifs1, 0⟩] scope pos) (dLc2 ti (own.map (·.2)) g c ti1 vs1 g1 c1 te) := pe_wk (pe_lc2 hc hN hi ok hv hg ht hi1 hg1 ht1 he hs hs1) fun _ _ _ h => up_lc2 hw hw1 go h
end
end VD

set_option Elab.async false
set_option linter.all false
set_option maxRecDepth 100000
set_option maxHeartbeats 4000000
namespace VD
open PySem L2

/-! ### the law's own def -/
/-- what its first statement must reach: the pen at slot i, and the rest answers True -/
def penThen (i : Nat) (t1 : List Int → TSD) : DE := ⟨fun e1 m => ∃ (ns : List Int) (k l : Int), e1[i]? = some (some (.own [.lst (ns.map .int), .int k, .int l])) ∧ 0 ≤ k ∧ k ≤ m ∧ 0 ≤ l ∧
  t1 ns ⟨fun _ _ => False, fun x _ => x = .bl true, fun _ _ => False, fun _ _ => False⟩ (e1.set i (some (.d .pen))) m, fun _ _ => False, fun _ _ => False, fun _ _ => False⟩
theorem ok_law {P : Program} {w : World} {K : PySem.W.Frag} {mg : Str → Option Value} {base : Heap} {k : Nat} {f : Addr} {fd : FuncData} {x ql sc : Str} {st s0 : Stmt} {rest : List Stmt} {N : List Str} {tabs : List Addr} {t0 : TSD} {t1 : List Int → TSD} (i : Nat)
    (F : Fun K x ql st f fd) (S : FnScope N [sc] (defScope st)) (hbd : defBody st = s0 :: rest)
    (h0 : ∀ (cdv : Value) (A : Around) (outer : List Env) (s : Shared) (H : Hp) (E : XK), Room k (cxOf CX0 P w K mg base N ql (defScope st) f cdv A outer s H E).A → (cxOf CX0 P w K mg base N ql (defScope st) f cdv A outer s H E).A.guards = some [] → PSD (cxOf CX0 P w K mg base N ql (defScope st) f cdv A outer s H E) ⟨none, [], tabs⟩ H .m s0 t0)
    (h1 : ∀ (a : Addr) (ns : List Int) (cdv : Value) (A : Around) (outer : List Env) (s : Shared) (H : Hp) (E : XK), Room k (cxOf CX0 P w K mg base N ql (defScope st) f cdv A outer s H E).A → (cxOf CX0 P w K mg base N ql (defScope st) f cdv A outer s H E).A.guards = some [] → PSDs (cxOf CX0 P w K mg base N ql (defScope st) f cdv A outer s H E) ⟨some a, ns, tabs⟩ H .m rest (t1 ns))
    (hm : ∀ ns : List Int, ns.length ≤ 63 → (∀ z ∈ ns, Builtin.Int.intBits z ≤ 1048576) → t0 (penThen i t1) (startE N.length [.ro (ns.map .int)]) 0) :
    FnG P w K mg base CX0 (k + 1) f fd [sc] (spL tabs K) := by
  refine Fun.okG F S (fun vs H Q E ⟨a, ns, e, _⟩ => by rw [e]; rfl) fun cdv A outer s H vs Q E hr hg ⟨a, ns, ev, ro, h63, hb, ht, q⟩ => ?_
  subst ev
  have hN : 1 ≤ N.length := by
    have z := congrArg List.length S.pre
    rw [List.length_take] at z
    show 1 ≤ N.length
    simp at z
    omega
  have all := pss_open i (h0 cdv A outer s H E hr hg) fun p ns => h1 p ns cdv A outer s H E hr hg
  rw [← hbd] at all
  have r : Reps ⟨none, [], tabs⟩ K H [V.ref a] [D.ro (ns.map .int)] := .cons (.ro ro (reps_ints ns)) .nil
  exact ⟨_, all, ⟨⟨startE N.length [.ro (ns.map .int)], 0, good_start r ⟨trivial, ht⟩ hN, hm ns h63 hb⟩, q⟩⟩
end VD

set_option Elab.async false
set_option linter.all false
set_option maxRecDepth 100000
set_option maxHeartbeats 4000000
namespace VD
open PySem L2

/-! ### the head's facts -/
/-- no table of a code object is taken into the written part -/
def noTab : Option Obj → Option Obj
  | some ⟨.none, _, .fields vs, sl⟩ => if vs.size = 0 then none else some ⟨.none, .none, .fields vs, sl⟩
  | o => o
def gT (g : Addr → Option Obj) (a : Addr) : Option Obj := match g a with
  | some ⟨.none, d, .fields vs, sl⟩ => if vs.size = 0 then none else some ⟨.none, d, .fields vs, sl⟩
  | o => o
theorem gT_some {g : Addr → Option Obj} {a : Addr} {o : Obj} (h : gT g a = some o) : g a = some o := by
  unfold gT at h
  split at h
  · split at h
    · cases h
    · rename_i e _
      rw [e]
      exact h
  · exact h
def fragV (g : Addr → Option Obj) (n : Nat) : PySem.W.Frag := He.frG (gT g) (cStatics :: He.asD g n)
theorem fragV_in {h : Heap} {n : Nat} : (fragV h.get? n).In h := fun _ _ e => gT_some (He.frG_at _ e)
abbrev AlV : Type := He.AlD × Bool
def obsV (n : Nat) (fa : List He.Fa) (fn : List He.DefD) (xf : PySem.W.Frag → Bool) (g : Addr → Option Obj) : AlV := (fun K => (He.obsD fa fn K, xf K)) (fragV g n)
def hookV (n : Nat) (fa : List He.Fa) (fn : List He.DefD) (xf : PySem.W.Frag → Bool) : PySem.W.Hook where
  α := AlV
  obs := fun s => obsV n fa fn xf s.heap.get?
  val := fun _ => (He.valD fn, true)
  says := fun _ h => ∃ K : PySem.W.Frag, K.In h ∧ He.SaysD fa fn K ∧ xf K = true
  of := fun _ _ e => ⟨_, fragV_in, congrArg (fun z : AlV => z.1) e, congrArg (fun z : AlV => z.2) e⟩
  keeps := fun _ _ _ ⟨K, hK, c⟩ k => ⟨K, PySem.W.Frag.In.keeps hK k, c⟩
def obV (n : Nat) (fa : List He.Fa) (fn : List He.DefD) (xf : PySem.W.Frag → Bool) (s : PySem.W.SharedT) : AlV := obsV n fa fn xf (HandSHeadRun.getT s)
theorem obV_eq {n : Nat} {fa : List He.Fa} {fn : List He.DefD} {xf : PySem.W.Frag → Bool} (s : PySem.W.SharedT) : obV n fa fn xf s = (hookV n fa fn xf).obs s.abs := by
  have e : HandSHeadRun.getT s = s.abs.heap.get? := funext (HandSHeadRun.getT_eq s)
  unfold obV
  rw [e]
  rfl
/-- one def of the text -/
abbrev dfn (x : Str) (st : Stmt) : He.DefD := ⟨(x, none), x, x, defArgs st, defBody st, defScope st, [], []⟩
def DefAt (K : PySem.W.Frag) (mg : Str → Option Value) (x : Str) (st : Stmt) (ps : List Str) : Prop :=
  ∃ f fd, L2.Fun K x x st f fd ∧ mg x = some (.ref f) ∧ PySem.W.keepIn K (.ref f) = true ∧ Binds K fd ps []
section
variable {K : PySem.W.Frag} {mg : Str → Option Value} {h : Heap} {fa : List He.Fa} {fn : List He.DefD} {x : Str} {st : Stmt} {ps : List Str}
theorem fun_of {f : Addr} {fd : FuncData} (F : FunD K x x (defArgs st) (defBody st) (defScope st) [] [] f fd) : L2.Fun K x x st f fd := by
  obtain ⟨oc, od, dV, kV, doc, pm, an, cdv, ct, osl, e, lk, hcd, hD, _⟩ := F.ex
  rcases hD with ⟨_, rfl⟩ | ⟨q, _⟩
  · exact ⟨⟨oc, od, kV, doc, pm, an, cdv, ct, osl, e, lk, hcd⟩, F.kp⟩
  · exact (q rfl).elim
theorem def_at (X : K.In h) (G : h.Ns mainGlobals mg) (c : He.SaysD fa fn K) (i j : Nat) (hi : fn[i]? = some (dfn x st)) (hj : fa[j]? = some (.glo x))
    (hb : ∀ (kV doc pm : Value) (an : Option Addr) (cdv ct : Value) (us : List Value), us.length = ps.length → bindArgs (PySem.W.fnOf x x (defArgs st) (defBody st) (defScope st) .none kV doc pm an cdv ct) ⟨us, []⟩ = pure (ps.zip us)) : DefAt K mg x st ps := by
  obtain ⟨fd, F⟩ := c.def_ i hi
  have F' : FunD K x x (defArgs st) (defBody st) (defScope st) [] [] (He.ga K x) fd := F
  exact ⟨_, fd, fun_of F', He.glo_ok X G (c.fact j hj), F'.kp, F'.bindsN hb⟩
theorem DefAt.has {P : Program} {w : World} {base : Heap} {CX : CXT} {k : Nat} {sp : Sp} (D : DefAt K mg x st ps) (F : ∀ f fd, L2.Fun K x x st f fd → FnG P w K mg base CX k f fd ps sp) : Has P w K mg base CX k x ps sp :=
  let ⟨f, fd, hF, hm, kp, hb⟩ := D
  ⟨f, fd, F f fd hF, hm, kp, hb⟩
theorem exc0_of (c : He.SaysD fa fn K) (j : Nat) (hj : fa[j]? = some (.exc x)) : Exc0 K (He.ga K x) := by
  obtain ⟨c1, c2, c3, c4⟩ := He.exc_ok (c.fact j hj)
  exact ⟨⟨_, _, _, _, PySem.F.excBase_ValueError, c1⟩, c2, c3, c4⟩
end
/-! ### class facts -/
def excCB (K : PySem.W.Frag) (D : Addr) : Bool :=
  decide (PySem.W.findIn K (.ref D) "__getattribute__" = some (some (.builtin "BaseException.__getattribute__"))) && (decide (PySem.W.findIn K (.ref D) "__getattr__" = some none) && (decide (PySem.W.subIn K (.ref D) (.type "BaseException") = some true) &&
  (PySem.W.hasDictIn K D && (decide (PySem.W.findIn K (.ref D) "__class__" = some (some (.builtin "object.__class__"))) && (decide (PySem.W.specialIn K (.builtin "object.__class__") "__get__" = some (some (.builtin "getset_descriptor.__get__"))) &&
  (decide (PySem.W.takesIn K (.builtin "object.__class__") = some true) && decide (PySem.W.mroIn K D (.type "object") = some true)))))))
theorem excCB_ok {K : PySem.W.Frag} {D : Addr} (h : excCB K D = true) : ExcC K D := by
  unfold excCB at h
  simp only [Bool.and_eq_true, decide_eq_true_eq] at h
  obtain ⟨h1, h2, h3, h4, h5, h6, h7, h8⟩ := h
  exact ⟨h1, h2, h3, h4, h5, h6, h7, h8⟩
def oexB (K : PySem.W.Frag) (C : Addr) : Bool := (match K.lookup C with
  | some ⟨.type "type", _, .cls cd, sl⟩ => (match cd.mro, sl.toList with
    | .ref C' :: bm, [_, _, _, _, some (.builtin n), _] => C' == C && n == "ValueError.__new__" && !cd.hasDel && cd.hasDict && PySem.HandSPX.refsVE bm
    | _, _ => false)
  | _ => false) && (decide (PySem.W.findIn K (.ref C) "__setattr__" = some (some (.builtin "object.__setattr__"))) && (decide (PySem.W.subIn K (.ref C) (.type "BaseException") = some true) && (decide (PySem.W.typeIn K (.ref C) = some (.type "type")) && PySem.W.keepIn K (.ref C))))
theorem oexB_ok {K : PySem.W.Frag} {C : Addr} (h : oexB K C = true) : OexC K C := by
  unfold oexB at h
  rw [Bool.and_eq_true] at h
  obtain ⟨h0, h⟩ := h
  simp only [Bool.and_eq_true, decide_eq_true_eq] at h
  obtain ⟨h1, h2, h3, h4⟩ := h
  refine ⟨?_, h1, h2, h3, h4⟩
  split at h0
  · rename_i dd cd sl e
    obtain ⟨nm, bs, mro, ns, qn, hd, sn, sb, ab, col, del⟩ := cd
    dsimp only at h0
    split at h0
    · rename_i C' bm k0 k1 k2 k3 n k5 e2
      simp only [Bool.and_eq_true, Bool.not_eq_true', beq_iff_eq] at h0
      obtain ⟨⟨⟨⟨a1, a2⟩, a3⟩, a4⟩, a5⟩ := h0
      subst a1 a2 a3 a4
      have e3 : sl = #[k0, k1, k2, k3, some (.builtin "ValueError.__new__"), k5] := Array.ext' e2
      subst e3
      exact ⟨nm, qn, ns, bs, bm, sn, sb, ab, col, dd, k0, k1, k2, k3, k5, e, a5⟩
    · cases h0
  · cases h0
/-- B.__init__(self, ..) in an error's own __init__, B an own class without one -/
def baseB (K : PySem.W.Frag) (D : Addr) : Bool := PySem.W.readsIn K D (.type "type") && (decide (PySem.W.specialIn K (.ref D) "__getattribute__" = some (some (.builtin "type.__getattribute__"))) && (match PySem.W.findCls K (.ref D) (.type "type") "__init__" with
  | some (.val (.builtin id)) => id == "ValueError.__init__"
  | _ => false))
theorem baseB_ok {K : PySem.W.Frag} {D : Addr} (h : baseB K D = true) : ClX.CRead K D (.type "type") ∧ PySem.W.findCls K (.ref D) (.type "type") "__init__" = some (.val (.builtin "ValueError.__init__")) := by
  unfold baseB at h
  simp only [Bool.and_eq_true, decide_eq_true_eq] at h
  obtain ⟨h1, h2, h3⟩ := h
  refine ⟨⟨h1, h2⟩, ?_⟩
  split at h3
  · rename_i id e
    rw [beq_iff_eq] at h3
    subst h3
    exact e
  · cases h3
/-! ### an error class's own __init__ -/
/-- the method m of the class x -/
abbrev mfn (x m q : Str) (st : Stmt) : He.DefD := ⟨(x, some m), m, q, defArgs st, defBody st, defScope st, [], []⟩
theorem DefD_fun {K : PySem.W.Frag} {fa : List He.Fa} {fn : List He.DefD} {x m q : Str} {st : Stmt} {ps : List Str} (c : He.SaysD fa fn K) (i : Nat) (hi : fn[i]? = some (mfn x m q st))
    (hb : ∀ (kV doc pm : Value) (an : Option Addr) (cdv ct : Value) (us : List Value), us.length = ps.length → bindArgs (PySem.W.fnOf m q (defArgs st) (defBody st) (defScope st) .none kV doc pm an cdv ct) ⟨us, []⟩ = pure (ps.zip us)) :
    ∃ fd, L2.Fun K m q st (He.ma K (He.ga K x) m) fd ∧ Binds K fd ps [] := by
  obtain ⟨fd, F⟩ := c.def_ i hi
  have F' : FunD K m q (defArgs st) (defBody st) (defScope st) [] [] (He.ma K (He.ga K x) m) fd := F
  refine ⟨fd, ?_, F'.bindsN hb⟩
  obtain ⟨oc, od, dV, kV, doc, pm, an, cdv, ct, osl, e, lk, hcd, hD, _⟩ := F'.ex
  rcases hD with ⟨_, rfl⟩ | ⟨z, _⟩
  · exact ⟨⟨oc, od, kV, doc, pm, an, cdv, ct, osl, e, lk, hcd⟩, F'.kp⟩
  · exact (z rfl).elim
/-- what is asked of the class at C, whose __init__ keeps its argument in fl -/
def initB (K : PySem.W.Frag) (C fI : Addr) (fl : Str) : Bool := oexB K C && (decide (PySem.W.findIn K (.ref C) fl = some none) && (decide (PySem.W.findIn K (.ref C) "__init__" = some (some (.ref fI))) && decide (PySem.W.typeIn K (.ref fI) = some (.type "function"))))
theorem initB_ok {K : PySem.W.Frag} {C fI : Addr} {fl : Str} (h : initB K C fI fl = true) : OexC K C ∧ PySem.W.findIn K (.ref C) fl = some none ∧ PySem.W.findIn K (.ref C) "__init__" = some (some (.ref fI)) ∧ PySem.W.typeIn K (.ref fI) = some (.type "function") := by
  unfold initB at h
  simp only [Bool.and_eq_true, decide_eq_true_eq] at h
  obtain ⟨h1, h2, h3, h4⟩ := h
  exact ⟨oexB_ok h1, h2, h3, h4⟩
theorem excI_of {P : Program} {w : World} {K : PySem.W.Frag} {mg : Str → Option Value} {base : Heap} {k : Nat} {C fI : Addr} {fd : FuncData} {fl q a0 a1 msg : Str} {st : Stmt} (h : initB K C fI fl = true) (F : L2.Fun K "__init__" q st fI fd) (hb : Binds K fd [a0, a1] []) (S : FnScope [a0, a1] [a0, a1] (defScope st))
    (hbd : ∀ (cdv : Value) (A : Around) (outer : List Env) (s : Shared) (H : Hp) (E : XK), PSs (cxOf CX0 P w K mg base [a0, a1] q (defScope st) fI cdv A outer s H E) (defBody st) (tInit K fl msg)) : ExcI P w K mg base (k + 1) C fl := by
  obtain ⟨h1, h2, h3, h4⟩ := initB_ok h
  exact ⟨fI, fd, [a0, a1], h1, h3, h4, ok_init F S h1 h2 hbd, hb⟩

/-! ### the law's end -/
theorem walk_ofV {l : PySem.W.OpenLaw} {k : Nat} {q : Program} {loose : List Str} {XP : (Str → Option Value) → Heap → Prop} {YP : World → Heap → Prop} {d : DefRec} {x : Str}
    (hn : l.most = some 63) (hdf : d.params.defaults = []) (hr : Room k PySem.callerA)
    (F : ∀ (w : World) (mg : Str → Option Value) (fa : Addr) (h : Heap), YP w h → h.Ns mainGlobals mg → mg d.name = some (.ref fa) → ∃ K : PySem.W.Frag, K.In h ∧ LawHas l w K k x mg fa h) :
    PySem.W.WalkO q loose XP YP l.row.toRowW d [] (fun f vs => PySem.call f vs) :=
  Att.attach_callB hn hdf fun w s0 s1 mg mb fa o pm cd doc a vs ns G Y _ _ _ hmg hobj hints hlen hbits hg => by
    obtain ⟨K, KX, fd, cs, hc, hb, hF⟩ := F w mg fa _ Y G.T.g hmg
    exact law_called ⟨KX, G.T.g, G.T.b, G.T.builtins, G.T.nolimit, fun p hp => (hc p hp).1, fun p hp => (hc p hp).2.1, fun p hp => (hc p hp).2.2, G.T.bmain, hobj, hints, Nat.le_trans hlen (by rw [sizeLine_eq]; omega), hg⟩ hlen hbits hr hF hb
end VD

set_option Elab.async false
set_option linter.all false
set_option maxRecDepth 100000
set_option maxHeartbeats 4000000
namespace VD
open PySem L2

/-! ### defs that make generators: their code objects' tables among the head's facts -/
def codeC (K : PySem.W.Frag) (f : Addr) : Addr := match K.lookup f with
  | some ⟨_, _, .func fd, _⟩ => (match fd.code with
    | .ref c => c
    | _ => 0)
  | _ => 0
def codeB (K : PySem.W.Frag) (f : Addr) : Bool := match K.lookup f with
  | some ⟨_, _, .func fd, _⟩ => (match fd.code with
    | .ref _ => true
    | _ => false)
  | _ => false
def tabC (K : PySem.W.Frag) (c : Addr) : Addr := match K.lookup c with
  | some ⟨_, _, .fields vs, _⟩ => (match (vs[11]? : Option Value) with
    | some (.ref P) => P
    | _ => 0)
  | _ => 0
def noneLeft : Option Obj → Bool
  | some ⟨.none, none, .fields vs, sl⟩ => vs.size == 0 && sl.size == 0
  | _ => false
theorem noneLeft_ok {o : Option Obj} (h : noneLeft o = true) : o = some { cls := .none, data := .fields #[] } := by
  unfold noneLeft at h
  split at h
  · rename_i vs sl
    obtain ⟨a, b⟩ := Bool.and_eq_true_iff.mp h
    have ea : vs = #[] := Array.size_eq_zero_iff.mp (beq_iff_eq.mp a)
    have eb : sl = #[] := Array.size_eq_zero_iff.mp (beq_iff_eq.mp b)
    subst ea eb
    rfl
  · cases h
abbrev cdA (K : PySem.W.Frag) (x : Str) : Addr := codeC K (He.ga K x)
abbrev tbA (K : PySem.W.Frag) (x : Str) : Addr := tabC K (cdA K x)
def tabB (g : Addr → Option Obj) (K : PySem.W.Frag) (x : Str) : Bool := codeB K (He.ga K x) && (PySem.W.codeHdIn K (cdA K x) (tbA K x) && ((K.lookup (tbA K x)).isNone && noneLeft (g (tbA K x))))
structure TabH (h : Heap) (K : PySem.W.Frag) (x : Str) : Prop where
  code : codeB K (He.ga K x) = true
  hd : PySem.W.codeHdIn K (cdA K x) (tbA K x) = true
  out : K.lookup (tbA K x) = none
  tab : h.get? (tbA K x) = some { cls := .none, data := .fields #[] }
theorem tabB_ok {h : Heap} {K : PySem.W.Frag} {x : Str} (e : tabB h.get? K x = true) : TabH h K x := by
  unfold tabB at e
  obtain ⟨e1, e⟩ := Bool.and_eq_true_iff.mp e
  obtain ⟨e2, e⟩ := Bool.and_eq_true_iff.mp e
  obtain ⟨e3, e4⟩ := Bool.and_eq_true_iff.mp e
  exact ⟨e1, e2, Option.isNone_iff_eq_none.mp e3, noneLeft_ok e4⟩
theorem code_of {K : PySem.W.Frag} {x q : Str} {st : Stmt} {f : Addr} {fd : FuncData} (F : L2.Fun K x q st f fd) (h : codeB K f = true) : fd.code = .ref (codeC K f) := by
  obtain ⟨oc, od, kV, doc, pm, an, cdv, ct, osl, e, lk, hcd⟩ := F.ex
  unfold codeB at h
  unfold codeC
  rw [lk] at h ⊢
  dsimp only at h ⊢
  split at h
  · rename_i c ec
    rw [ec]
  · cases h
abbrev AlW : Type := AlV × Bool
def obsW (n : Nat) (fa : List He.Fa) (fn : List He.DefD) (xf : PySem.W.Frag → Bool) (tn : List Str) (g : Addr → Option Obj) : AlW := (fun K => ((He.obsD fa fn K, xf K), tn.all (tabB g K))) (fragV g n)
def hookW (n : Nat) (fa : List He.Fa) (fn : List He.DefD) (xf : PySem.W.Frag → Bool) (tn : List Str) : PySem.W.Hook where
  α := AlW
  obs := fun s => obsW n fa fn xf tn s.heap.get?
  val := fun _ => ((He.valD fn, true), true)
  says := fun _ h => ∃ K : PySem.W.Frag, K.In h ∧ He.SaysD fa fn K ∧ xf K = true ∧ ∀ x ∈ tn, TabH h K x
  of := fun _ _ e => ⟨_, fragV_in, congrArg (fun z : AlW => z.1.1) e, congrArg (fun z : AlW => z.1.2) e, fun x hx => tabB_ok (List.all_eq_true.mp (congrArg (fun z : AlW => z.2) e) x hx)⟩
  keeps := fun _ _ _ ⟨K, hK, c, x, t⟩ k => ⟨K, PySem.W.Frag.In.keeps hK k, c, x, fun y hy => let z := t y hy; ⟨z.code, z.hd, z.out, k _ _ z.tab⟩⟩
def obW (n : Nat) (fa : List He.Fa) (fn : List He.DefD) (xf : PySem.W.Frag → Bool) (tn : List Str) (s : PySem.W.SharedT) : AlW := obsW n fa fn xf tn (HandSHeadRun.getT s)
theorem obW_eq {n : Nat} {fa : List He.Fa} {fn : List He.DefD} {xf : PySem.W.Frag → Bool} {tn : List Str} (s : PySem.W.SharedT) : obW n fa fn xf tn s = (hookW n fa fn xf tn).obs s.abs := by
  have e : HandSHeadRun.getT s = s.abs.heap.get? := funext (HandSHeadRun.getT_eq s)
  unfold obW
  rw [e]
  rfl
/-- a def whose code object is looked at -/
def DefAtC (K : PySem.W.Frag) (mg : Str → Option Value) (x : Str) (st : Stmt) (ps : List Str) : Prop :=
  ∃ fd, L2.Fun K x x st (He.ga K x) fd ∧ mg x = some (.ref (He.ga K x)) ∧ PySem.W.keepIn K (.ref (He.ga K x)) = true ∧ Binds K fd ps []
section
variable {K : PySem.W.Frag} {mg : Str → Option Value} {h : Heap} {fa : List He.Fa} {fn : List He.DefD} {x : Str} {st : Stmt} {ps : List Str}
theorem def_atC (X : K.In h) (G : h.Ns mainGlobals mg) (c : He.SaysD fa fn K) (i j : Nat) (hi : fn[i]? = some (dfn x st)) (hj : fa[j]? = some (.glo x))
    (hb : ∀ (kV doc pm : Value) (an : Option Addr) (cdv ct : Value) (us : List Value), us.length = ps.length → bindArgs (PySem.W.fnOf x x (defArgs st) (defBody st) (defScope st) .none kV doc pm an cdv ct) ⟨us, []⟩ = pure (ps.zip us)) : DefAtC K mg x st ps := by
  obtain ⟨fd, F⟩ := c.def_ i hi
  have F' : FunD K x x (defArgs st) (defBody st) (defScope st) [] [] (He.ga K x) fd := F
  exact ⟨fd, fun_of F', He.glo_ok X G (c.fact j hj), F'.kp, F'.bindsN hb⟩
theorem DefAtC.has {P : Program} {w : World} {base : Heap} {CX : CXT} {k : Nat} {sp : Sp} (D : DefAtC K mg x st ps) (T : TabH h K x) (F : ∀ fd, L2.Fun K x x st (He.ga K x) fd → fd.code = .ref (cdA K x) → FnG P w K mg base CX k (He.ga K x) fd ps sp) : Has P w K mg base CX k x ps sp :=
  let ⟨fd, hF, hm, kp, hb⟩ := D
  ⟨He.ga K x, fd, F fd hF (code_of hF T.code), hm, kp, hb⟩
theorem tabs_of {tn : List Str} (X : K.In h) (T : ∀ x ∈ tn, TabH h K x) : ∀ p ∈ tn.map (fun x => (cdA K x, tbA K x)), h.get? p.2 = some { cls := .none, data := .fields #[] } ∧ K.lookup p.2 = none ∧ PySem.W.CodeHd h p.1 p.2 := fun p hp => by
  obtain ⟨x, hx, rfl⟩ := List.mem_map.mp hp
  have z := T x hx
  exact ⟨z.tab, z.out, PySem.W.codeHd_of_K X z.hd⟩
end
end VD

set_option Elab.async false
set_option linter.all false
set_option maxRecDepth 100000
set_option maxHeartbeats 4000000
namespace PenM
open PySem L2 VD
def b__law_spread : EK → TSD := fun E => (dSeq (dIfS (dT (d2 fGe (dVar 0) (d2 fPow (dC (.int 10)) (dC (.int 18))))) (dRet (dVar 0)) dNext) (dSeq (dSet 2 (dLst (dCons (dC (.int 2147483629)) (dCons (dC (.int 2147483587)) (dCons (dC (.int 2147483579)) (dCons (dC (.int 2147483563)) (dCons (dC (.int 2147483549)) (dCons (dC (.int 2147483543)) (dCons (dC (.int 2147483497)) dNil))))))))) (dSeq (dSet 2 (d2 fCatL (dVar 2) (dLst (dCons (dC (.int 2147483489)) (dCons (dC (.int 2147483477)) (dCons (dC (.int 2147483423)) (dCons (dC (.int 2147483399)) (dCons (dC (.int 2147483353)) (dCons (dC (.int 2147483323)) dNil))))))))) (dSeq (dSet 3 (d2 fAdd (d2 fAdd (d2 fMul (d2 fMod (dVar 0) (dC (.int 1000000007))) (d2 fAdd (d2 fMul (dC (.int 2)) (dVar 1)) (dC (.int 69069)))) (d2 fMul (dVar 1) (dC (.int 40503)))) (dC (.int 977)))) (dSeq (dSet 4 (d2 fMod (d2 fPow (dVar 3) (dC (.int 3))) (d2 fIxL (dVar 2) (d2 fMod (dVar 1) (dC (.int 13)))))) (dSeq (dSet 5 (d2 fMod (d2 fPow (d2 fAdd (d2 fAdd (d2 fMul (dVar 4) (d2 fAdd (dVar 1) (dC (.int 3)))) (d2 fMod (dVar 0) (dC (.int 65537)))) (dC (.int 5))) (dC (.int 5))) (d2 fIxL (dVar 2) (d2 fMod (d2 fAdd (dVar 1) (dC (.int 5))) (dC (.int 13)))))) (dSeq (dSet 6 (d2 fMod (d2 fPow (d2 fAdd (d2 fAdd (dVar 5) (d2 fMod (dVar 4) (dC (.int 1009)))) (dVar 1)) (dC (.int 3))) (d2 fIxL (dVar 2) (d2 fMod (d2 fAdd (dVar 1) (dC (.int 7))) (dC (.int 13)))))) (dRet (d2 fAdd (d2 fMul (d2 fAdd (d2 fMul (dVar 4) (dC (.int 2147483647))) (dVar 5)) (dC (.int 2147483647))) (dVar 6))))))))))
def b__law_anew : EK → TSD := fun E => (dSeq (dPut2 0 (dC (.int 0))) (dRet (dVar 0)))
def b__law_take (cs : List Int) (t__law_spread : TF) : EK → TSD := fun E => (dSeq (dIfS (dT (d2 fLt (dPen2 0) (dVar 1))) (dSeq (dSet 2 (dPen1 0)) (dSeq (dSet 3 (dC (.int 0))) (dSeq (dIfS (dT (d2 fLt (dVar 2) (d1 fLen (dPen0 cs 0)))) (dSet 3 (d2 fIxL (dPen0 cs 0) (dVar 2))) (dIfS (dT (d2 fGt (d1 fLen (dPen0 cs 0)) (dC (.int 0)))) (dSet 3 (d2 fMod (d2 fIxL (dPen0 cs 0) (d2 fMod (d2 fAdd (d2 fMul (dVar 2) (dC (.int 5))) (dC (.int 3))) (d1 fLen (dPen0 cs 0)))) (d2 fAdd (d2 fPow (dC (.int 10)) (dC (.int 17))) (dVar 2)))) dNext)) (dSeq (dPut1 0 (d2 fAdd (dVar 2) (dC (.int 1)))) (dPut2 0 (dCall 2 t__law_spread E (dCons (dVar 3) (dCons (dVar 2) dNil)))))))) dNext) (dSeq (dSet 4 (d2 fMod (dPen2 0) (dVar 1))) (dSeq (dPut2 0 (d2 fDiv (dPen2 0) (dVar 1))) (dRet (dVar 4)))))
def b__law_one (t__law_take : TF) : EK → TSD := fun E => (dRet (d2 fIxL (dVar 1) (dCall 2 t__law_take E (dCons (dVar 0) (dCons (d1 fLen (dVar 1)) dNil)))))
theorem small_prime {l : List D} (h : ∀ x ∈ l, ∃ p : Int, x = .int p ∧ 0 < p ∧ p < 2147483648) {i : Int} (h0 : 0 ≤ i) (h1 : i < l.length) {k : D → Prop} (q : ∀ p : Int, 0 < p → p < 2147483648 → k (.int p)) : opt (atI l i) k := by
  rw [atI_nn h0, List.getElem?_eq_getElem (by omega)]
  obtain ⟨p, e, a, b⟩ := h _ (List.getElem_mem (by omega : i.toNat < l.length))
  rw [e]
  exact q p a b
/-- what is wanted of _law_spread -/
def tfSpread : TF := fun l n Q _ => ∃ c a : Int, l = [.int c, .int a] ∧ 0 ≤ a ∧ a < 1000000 ∧ ∀ r : Int, 0 ≤ r → Q (.int r) n
theorem mod_lt' {x m : Int} (h : 0 < m) : 0 ≤ x % m ∧ x % m < m := ⟨Int.emod_nonneg _ (by omega), Int.emod_lt_of_pos _ h⟩
theorem pow_ok {b : Int} {j : Int} (h : 0 ≤ b) (h1 : b < 2 ^ 63) (hj : j = 3 ∨ j = 5) : CPow b j := by
  rcases hj with rfl | rfl
  · exact ⟨by omega, by omega, by omega⟩
  · exact ⟨by omega, by omega, by omega⟩
theorem spread_ok : ∀ l n Q E, tfSpread l n Q E → bodyTF 7 b__law_spread l n Q E := by
  intro l n Q E ⟨c, a, e, h1, h2, q⟩
  subst e
  show b__law_spread E ⟨fun _ m => Q .non m, Q, fun _ _ => False, fun _ _ => False⟩ [some (.d (.int c)), some (.d (.int a)), none, none, none, none, none] n
  unfold b__law_spread
  with_reducible refine s_seq.mpr (s_ifS.mpr (s_T.mpr (s_2.mpr (var_at rfl (s_2.mpr (s_C.mpr (s_C.mpr (ev_pow.mpr ⟨?_, ev_ge.mpr (ev_asB.mpr ?_)⟩))))))))
  · exact ⟨by decide, by decide, by decide⟩
  by_cases h : (10 : Int) ^ (18 : Int).toNat ≤ c
  · rw [if_pos (decide_eq_true h)]
    with_reducible refine s_ret.mpr (var_at rfl (q c ?_))
    have z : (0 : Int) ≤ (10 : Int) ^ (18 : Int).toNat := by decide
    omega
  rw [if_neg (by rw [decide_eq_false h]; exact Bool.false_ne_true)]
  obtain ⟨m1, m2⟩ := mod_lt' (x := c) (m := 1000000007) (by omega)
  obtain ⟨m3, m4⟩ := mod_lt' (x := c) (m := 65537) (by omega)
  have pr : ∀ x ∈ ([.int 2147483629, .int 2147483587, .int 2147483579, .int 2147483563, .int 2147483549, .int 2147483543, .int 2147483497] ++ [.int 2147483489, .int 2147483477, .int 2147483423, .int 2147483399, .int 2147483353, .int 2147483323] : List D), ∃ p : Int, x = .int p ∧ 0 < p ∧ p < 2147483648 := by
    simp only [List.cons_append, List.nil_append, List.mem_cons, List.not_mem_nil, or_false, forall_eq_or_imp, forall_eq]
    refine ⟨⟨_, rfl, ?_⟩, ⟨_, rfl, ?_⟩, ⟨_, rfl, ?_⟩, ⟨_, rfl, ?_⟩, ⟨_, rfl, ?_⟩, ⟨_, rfl, ?_⟩, ⟨_, rfl, ?_⟩, ⟨_, rfl, ?_⟩, ⟨_, rfl, ?_⟩, ⟨_, rfl, ?_⟩, ⟨_, rfl, ?_⟩, ⟨_, rfl, ?_⟩, ⟨_, rfl, ?_⟩⟩ <;> decide
  repeat' with_reducible first
    | refine s_next.mpr ?_
    | refine s_seq.mpr ?_
    | refine s_set.mpr ?_
    | refine s_ret.mpr ?_
    | refine s_lst.mpr ?_
    | refine s_cons.mpr ?_
    | refine s_nil.mpr ?_
    | refine s_C.mpr ?_
    | refine s_2.mpr ?_
    | refine var_at rfl ?_
    | refine ev_add.mpr ?_
    | refine ev_mul.mpr (And.intro ?_ ?_)
    | refine ev_mod.mpr (And.intro (by decide) ?_)
    | refine ev_pow.mpr (And.intro ?_ ?_)
    | refine ev_catL.mpr (And.intro (by decide) ?_)
    | refine ev_ixL.mpr ?_
    | refine And.intro (by decide) ?_
  · exact .inl (by omega)
  · exact .inl (by omega)
  · exact .inr (by omega)
  · have b1 : 0 ≤ c % 1000000007 * (2 * a + 69069) := Int.mul_nonneg m1 (by omega)
    have b2 : c % 1000000007 * (2 * a + 69069) ≤ 1000000007 * 2069069 := Int.mul_le_mul (by omega) (by omega) (by omega) (by omega)
    exact pow_ok (by omega) (by omega) (.inl rfl)
  refine small_prime pr (mod_lt' (x := a) (m := 13) (by decide)).1 (show a % 13 < ((13 : Nat) : Int) from (mod_lt' (x := a) (m := 13) (by decide)).2) fun p p1 p2 => ?_
  refine ev_mod.mpr (And.intro p1 ?_)
  generalize ho : (c % 1000000007 * (2 * a + 69069) + a * 40503 + 977) ^ Int.toNat 3 % p = one
  obtain ⟨o1, o2⟩ : 0 ≤ one ∧ one < p := by rw [← ho]; exact mod_lt' p1
  repeat' with_reducible first
    | refine s_next.mpr ?_
    | refine s_seq.mpr ?_
    | refine s_set.mpr ?_
    | refine s_ret.mpr ?_
    | refine s_C.mpr ?_
    | refine s_2.mpr ?_
    | refine var_at rfl ?_
    | refine ev_add.mpr ?_
    | refine ev_mul.mpr (And.intro ?_ ?_)
    | refine ev_mod.mpr (And.intro ?_ ?_)
    | refine ev_pow.mpr (And.intro ?_ ?_)
    | refine ev_ixL.mpr ?_
  · exact .inr (by omega)
  · omega
  · have b1 : 0 ≤ one * (a + 3) := Int.mul_nonneg o1 (by omega)
    have b2 : one * (a + 3) ≤ 2147483648 * 1000003 := Int.mul_le_mul (by omega) (by omega) (by omega) (by omega)
    exact pow_ok (by omega) (by omega) (.inr rfl)
  · omega
  refine small_prime pr (mod_lt' (x := (a + 5)) (m := 13) (by decide)).1 (show (a + 5) % 13 < ((13 : Nat) : Int) from (mod_lt' (x := (a + 5)) (m := 13) (by decide)).2) fun p' p3 p4 => ?_
  refine ev_mod.mpr (And.intro p3 ?_)
  generalize ht : (one * (a + 3) + c % 65537 + 5) ^ Int.toNat 5 % p' = two
  obtain ⟨t1, t2⟩ : 0 ≤ two ∧ two < p' := by rw [← ht]; exact mod_lt' p3
  obtain ⟨m5, m6⟩ := mod_lt' (x := one) (m := 1009) (by omega)
  repeat' with_reducible first
    | refine s_next.mpr ?_
    | refine s_seq.mpr ?_
    | refine s_set.mpr ?_
    | refine s_ret.mpr ?_
    | refine s_C.mpr ?_
    | refine s_2.mpr ?_
    | refine var_at rfl ?_
    | refine ev_add.mpr ?_
    | refine ev_mul.mpr (And.intro ?_ ?_)
    | refine ev_mod.mpr (And.intro ?_ ?_)
    | refine ev_pow.mpr (And.intro ?_ ?_)
    | refine ev_ixL.mpr ?_
  · omega
  · exact pow_ok (by omega) (by omega) (.inl rfl)
  · omega
  refine small_prime pr (mod_lt' (x := (a + 7)) (m := 13) (by decide)).1 (show (a + 7) % 13 < ((13 : Nat) : Int) from (mod_lt' (x := (a + 7)) (m := 13) (by decide)).2) fun p'' p5 p6 => ?_
  refine ev_mod.mpr (And.intro p5 ?_)
  generalize hh : (two + one % 1009 + a) ^ Int.toNat 3 % p'' = three
  obtain ⟨u1, u2⟩ : 0 ≤ three ∧ three < p'' := by rw [← hh]; exact mod_lt' p5
  repeat' with_reducible first
    | refine s_next.mpr ?_
    | refine s_seq.mpr ?_
    | refine s_set.mpr ?_
    | refine s_ret.mpr ?_
    | refine s_C.mpr ?_
    | refine s_2.mpr ?_
    | refine var_at rfl ?_
    | refine ev_add.mpr ?_
    | refine ev_mul.mpr (And.intro ?_ ?_)
    | refine ev_mod.mpr (And.intro ?_ ?_)
    | refine ev_pow.mpr (And.intro ?_ ?_)
    | refine ev_ixL.mpr ?_
  · exact .inr (by omega)
  · exact .inr (by omega)
  have c1 : 0 ≤ one * 2147483647 := Int.mul_nonneg o1 (by omega)
  have c2 : 0 ≤ (one * 2147483647 + two) * 2147483647 := Int.mul_nonneg (by omega) (by omega)
  exact q _ (by omega)
/-- what is wanted of _law_take: any number below many; at most one draw more is counted -/
def tfTake : TF := fun l n Q _ => ∃ m : Int, l = [.pen, .int m] ∧ 0 < m ∧ m < 1073741824 ∧ n < 999999 ∧ ∀ r : Int, 0 ≤ r → r < m → ∀ n', n ≤ n' → n' ≤ n + 1 → Q (.int r) n'
theorem ints_at {cs : List Int} {i : Int} (h0 : 0 ≤ i) (h1 : i < (cs.length : Nat)) {k : D → Prop} (q : ∀ c : Int, k (.int c)) : opt (atI (cs.map D.int) i) k := by
  rw [atI_nn h0, List.getElem?_eq_getElem (by rw [List.length_map]; omega), List.getElem_map]
  exact q _
theorem take_ok (cs : List Int) : ∀ l n Q E, tfTake l n Q E → bodyTF 5 (b__law_take cs tfSpread) l n Q E := by
  intro l n Q E ⟨m, e, h1, h2, h3, q⟩
  subst e
  show b__law_take cs tfSpread E ⟨fun _ m => Q .non m, Q, fun _ _ => False, fun _ _ => False⟩ [some (.d .pen), some (.d (.int m)), none, none, none] n
  unfold b__law_take
  -- behind the if
  have tail : ∀ (x y : Option S) (n' : Nat), n ≤ n' → n' ≤ n + 1 → dSeq (dSet 4 (d2 fMod (dPen2 0) (dVar 1))) (dSeq (dPut2 0 (d2 fDiv (dPen2 0) (dVar 1))) (dRet (dVar 4))) ⟨fun _ m => Q .non m, Q, fun _ _ => False, fun _ _ => False⟩ [some (.d .pen), some (.d (.int m)), x, y, none] n' := by
    intro x y n' a1 a2
    with_reducible refine s_seq.mpr (s_set.mpr (s_2.mpr (s_pen2.mpr (And.intro rfl fun l hl => var_at rfl (ev_mod.mpr (And.intro h1 ?_))))))
    with_reducible refine s_seq.mpr (s_put2.mpr (s_2.mpr (s_pen2.mpr (And.intro rfl fun l' hl' => var_at rfl (ev_div.mpr (And.intro ?_ ?_))))))
    · exact ⟨h1, h2⟩
    refine ⟨rfl, _, rfl, Int.ediv_nonneg hl' (by omega), ?_⟩
    with_reducible refine s_ret.mpr (var_at rfl ?_)
    exact q _ (mod_lt' h1).1 (mod_lt' h1).2 n' a1 a2
  with_reducible refine s_seq.mpr (s_ifS.mpr (s_T.mpr (s_2.mpr (s_pen2.mpr (And.intro rfl fun l hl => var_at rfl (ev_lt.mpr (ev_asB.mpr ?_)))))))
  by_cases c : l < m
  · rw [if_pos (decide_eq_true c)]
    -- behind the choice of the cell
    have next : ∀ (k x : Int), 0 ≤ k → k ≤ n → dSeq (dPut1 0 (d2 fAdd (dVar 2) (dC (.int 1)))) (dPut2 0 (dCall 2 tfSpread E (dCons (dVar 3) (dCons (dVar 2) dNil)))) ⟨dSeq (dSet 4 (d2 fMod (dPen2 0) (dVar 1))) (dSeq (dPut2 0 (d2 fDiv (dPen2 0) (dVar 1))) (dRet (dVar 4))) ⟨fun _ m => Q .non m, Q, fun _ _ => False, fun _ _ => False⟩, Q, fun _ _ => False, fun _ _ => False⟩ [some (.d .pen), some (.d (.int m)), some (.d (.int k)), some (.d (.int x)), none] n := by
      intro k x k1 k2
      with_reducible refine s_seq.mpr (s_put1.mpr (s_2.mpr (var_at rfl (s_C.mpr (ev_add.mpr ?_)))))
      refine ⟨rfl, _, rfl, by omega, by omega, ?_⟩
      with_reducible refine s_put2.mpr (s_call.mpr (s_cons.mpr (var_at rfl (s_cons.mpr (var_at rfl (s_nil.mpr (And.intro rfl ?_)))))))
      refine ⟨x, k, rfl, k1, by omega, fun r hr => ⟨rfl, r, rfl, hr, tail _ _ (n + 1) (by omega) (by omega)⟩⟩
    with_reducible refine s_seq.mpr (s_set.mpr (s_pen1.mpr (And.intro rfl fun k k1 k2 => s_seq.mpr (s_set.mpr (s_C.mpr ?_)))))
    with_reducible refine s_seq.mpr (s_ifS.mpr (s_T.mpr (s_2.mpr (var_at rfl (s_1.mpr (s_pen0.mpr (And.intro rfl ?_)))))))
    refine ev_lenL.mpr (ev_lt.mpr (ev_asB.mpr ?_))
    by_cases c1 : k < ((cs.map D.int).length : Nat)
    · rw [if_pos (decide_eq_true c1)]
      rw [List.length_map] at c1
      with_reducible refine s_set.mpr (s_2.mpr (s_pen0.mpr (And.intro rfl (var_at rfl (ev_ixL.mpr (ints_at k1 c1 fun x => ?_))))))
      exact next k x k1 k2
    · rw [if_neg (by rw [decide_eq_false c1]; exact Bool.false_ne_true)]
      with_reducible refine s_ifS.mpr (s_T.mpr (s_2.mpr (s_1.mpr (s_pen0.mpr (And.intro rfl ?_)))))
      refine ev_lenL.mpr ?_
      with_reducible refine s_C.mpr (ev_gt.mpr (ev_asB.mpr ?_))
      by_cases c2 : 0 < (((cs.map D.int).length : Nat) : Int)
      · rw [if_pos (decide_eq_true c2)]
        rw [List.length_map] at c2
        with_reducible refine s_set.mpr (s_2.mpr (s_2.mpr (s_pen0.mpr (And.intro rfl (s_2.mpr (s_2.mpr (s_2.mpr (var_at rfl (s_C.mpr (ev_mul.mpr (And.intro ?_ (s_C.mpr (ev_add.mpr (s_1.mpr (s_pen0.mpr (And.intro rfl ?_))))))))))))))))
        · exact .inr (by omega)
        refine ev_lenL.mpr ?_
        rw [List.length_map]
        with_reducible refine ev_mod.mpr (And.intro c2 (ev_ixL.mpr (ints_at (mod_lt' c2).1 (mod_lt' c2).2 fun x => ?_)))
        with_reducible refine s_2.mpr (s_2.mpr (s_C.mpr (s_C.mpr (ev_pow.mpr (And.intro ?_ (var_at rfl (ev_add.mpr (ev_mod.mpr (And.intro ?_ ?_)))))))))
        · exact ⟨by decide, by decide, by decide⟩
        · have z : (0 : Int) < (10 : Int) ^ (17 : Int).toNat := by decide
          omega
        exact next k _ k1 k2
      · rw [if_neg (by rw [decide_eq_false c2]; exact Bool.false_ne_true)]
        with_reducible refine s_next.mpr ?_
        exact next k 0 k1 k2
  · rw [if_neg (by rw [decide_eq_false c]; exact Bool.false_ne_true)]
    with_reducible refine s_next.mpr ?_
    exact tail none none n (by omega) (by omega)
/-- what is wanted of _law_one: any of the list -/
def tfOne : TF := fun l n Q _ => ∃ xs : List D, l = [.pen, .lst xs] ∧ xs ≠ [] ∧ xs.length < 1073741824 ∧ n < 999999 ∧ ∀ x ∈ xs, ∀ n', n ≤ n' → n' ≤ n + 1 → Q x n'
theorem one_ok : ∀ l n Q E, tfOne l n Q E → bodyTF 2 (b__law_one tfTake) l n Q E := by
  intro l n Q E ⟨xs, e, h1, h2, h3, q⟩
  subst e
  show b__law_one tfTake E ⟨fun _ m => Q .non m, Q, fun _ _ => False, fun _ _ => False⟩ [some (.d .pen), some (.d (.lst xs))] n
  unfold b__law_one
  with_reducible refine s_ret.mpr (s_2.mpr (var_at rfl (s_call.mpr (s_cons.mpr (var_at rfl (s_cons.mpr (s_1.mpr (var_at rfl ?_))))))))
  refine ev_lenL.mpr ?_
  with_reducible refine s_nil.mpr (And.intro rfl ?_)
  have pos : 0 < xs.length := List.length_pos_iff.mpr h1
  refine ⟨(xs.length : Nat), rfl, by omega, by omega, h3, fun r r1 r2 n' a1 a2 => ev_ixL.mpr ?_⟩
  rw [atI_nn r1, List.getElem?_eq_getElem (by omega)]
  exact q _ (List.getElem_mem (by omega : r.toNat < xs.length)) n' a1 a2
def tfAnew : TF := fun l n Q _ => l = [.pen] ∧ Q .pen n
theorem anew_ok : ∀ l n Q E, tfAnew l n Q E → bodyTF 1 b__law_anew l n Q E := by
  intro l n Q E ⟨e, q⟩
  subst e
  show b__law_anew E ⟨fun _ m => Q .non m, Q, fun _ _ => False, fun _ _ => False⟩ [some (.d .pen)] n
  unfold b__law_anew
  with_reducible refine s_seq.mpr (s_put2.mpr (s_C.mpr ?_))
  refine ⟨rfl, 0, rfl, by omega, ?_⟩
  with_reducible refine s_ret.mpr (var_at rfl ?_)
  exact q
end PenM

set_option Elab.async false
set_option linter.all false
set_option maxRecDepth 100000
set_option maxHeartbeats 4000000
namespace PenM
open PySem L2 VD
def b__law_open : EK → TSD := fun E => (dSeq (dSetO 1 (d1 fToL (dSl fSlL (dVar 0) dNo (dPt (dC (.int 12)))))) (dSeq (dFor (iEL (dSl fSlL (dVar 0) (dPt (dC (.int 12))) (dPt (dC (.int 63))))) (gTp (gCn (gNm 2) (gCn (gNm 3) gNl))) (dPut 1 (d2 fMod (dVar 2) (dC (.int 12))) (d2 fAdd (d2 fIxL (dOwn 1) (d2 fMod (dVar 2) (dC (.int 12)))) (dVar 3)))) (dFrz 1 (dRet (dLst (dCons (dVar 1) (dCons (dC (.int 0)) (dCons (dC (.int 0)) dNil))))))))
/-- what is wanted of _law_open: a new list [cells, 0, 0] -/
def tfOpen : TF := fun l n Q _ => ∃ ns : List Int, l = [.ro (ns.map .int)] ∧ ns.length ≤ 63 ∧ ∀ cells : List Int, Q (.lst [.lst (cells.map .int), .int 0, .int 0]) n
theorem enum_ints (ns : List Int) : enumD (ns.map .int) = ((List.range ns.length).map fun (i : Nat) => ((i : Int), ns[i]?.getD 0)).map fun z => D.tup [.int z.1, .int z.2] := by
  unfold enumD
  rw [List.map_map, List.length_map]
  refine List.map_congr_left fun i hi => ?_
  have hi := List.mem_range.mp hi
  show D.tup [.int i, (ns.map D.int)[i]?.getD .non] = D.tup [.int i, .int (ns[i]?.getD 0)]
  rw [List.getElem?_map, List.getElem?_eq_getElem hi]
  rfl
theorem s_sl {f : D → Option Int → Option Int → Option D} {t : TD} {l h : TOD} {e : En} {n : Nat} {Q : DK} : dSl f t l h e n Q ↔ t e n fun x n1 => l e n1 fun lo n2 => h e n2 fun hi n3 => opt (f x lo hi) fun z => Q z n3 := ⟨fun h => h, fun h => h⟩
theorem s_no {e : En} {n : Nat} {R : Option Int → Nat → Prop} : dNo e n R ↔ R none n := ⟨fun h => h, fun h => h⟩
theorem s_pt {t : TD} {e : En} {n : Nat} {R : Option Int → Nat → Prop} : dPt t e n R ↔ t e n fun x m => opt (asI x) fun i => R (some i) m := ⟨fun h => h, fun h => h⟩
theorem ev_slro {l : List D} {a b : Option Int} {k : D → Prop} : opt (fSlL (.ro l) a b) k ↔ k (.lst (cutD l a b)) := ⟨fun h => h, fun h => h⟩
theorem ev_toL {l : List D} {k : D → Prop} : opt (fToL (.lst l)) k ↔ k (.lst l) := ⟨fun h => h, fun h => h⟩
theorem s_iEL {t : TD} {e : En} {n : Nat} {R : List D → Nat → Prop} : iEL t e n R ↔ t e n fun x m => opt (asL x) fun l => R (enumD l) m := ⟨fun h => h, fun h => h⟩
abbrev openTg : GD := gTp (gCn (gNm 2) (gCn (gNm 3) gNl))
abbrev openBd : TSD := dPut 1 (d2 fMod (dVar 2) (dC (.int 12))) (d2 fAdd (d2 fIxL (dOwn 1) (d2 fMod (dVar 2) (dC (.int 12)))) (dVar 3))
theorem s_put {i n : Nat} {e : En} {u v : TD} {p : En → Nat → Prop} {r : DK} {o k : En → Nat → Prop} : dPut i u v ⟨p, r, o, k⟩ e n ↔ opt (ownAt e i) fun l => v e n fun x m => u e m fun j m2 => opt (asI j) fun z => opt (ixN l.length z) fun q => p (e.set i (some (.own (l.set q x)))) m2 := ⟨fun h => h, fun h => h⟩
theorem own_at {i n : Nat} {e : En} {y : List D} {Q : DK} (h : e[i]? = some (some (.own y))) (q : Q (.lst y) n) : dOwn i e n Q := s_own.mpr ⟨y, h, q⟩
theorem open_loop (sc : D) (n : Nat) (p : En → Nat → Prop) (r : DK) : ∀ (xs : List (Int × Int)) (cells : List Int) (a b : Option S) (o k : En → Nat → Prop), (xs ≠ [] → cells.length = 12) → (∀ (cells' : List Int) a b, p [some (.d sc), some (.own (cells'.map .int)), a, b] n) →
    dForL openTg openBd (xs.map fun z => D.tup [.int z.1, .int z.2]) ⟨p, r, o, k⟩ [some (.d sc), some (.own (cells.map .int)), a, b] n
  | [], cells, a, b, o, k, _, h => h cells a b
  | z :: xs, cells, a, b, o, k, hl, h => by
    have l12 : cells.length = 12 := hl (List.cons_ne_nil _ _)
    show openBd ⟨dForL openTg openBd (xs.map fun z => D.tup [.int z.1, .int z.2]) ⟨p, r, o, k⟩, r, p, dForL openTg openBd (xs.map fun z => D.tup [.int z.1, .int z.2]) ⟨p, r, o, k⟩⟩ [some (.d sc), some (.own (cells.map .int)), some (.d (.int z.1)), some (.d (.int z.2))] n
    have m0 := mod_lt' (x := z.1) (m := 12) (by decide)
    refine s_put.mpr (ev_some.mpr ?_)
    with_reducible refine s_2.mpr (s_2.mpr (own_at rfl (s_2.mpr (var_at rfl (s_C.mpr (ev_mod.mpr (And.intro (by decide) (ev_ixL.mpr (ints_at m0.1 ?_ fun c => ?_)))))))))
    · rw [l12]
      exact m0.2
    with_reducible refine var_at rfl (ev_add.mpr (s_2.mpr (var_at rfl (s_C.mpr (ev_mod.mpr (And.intro (by decide) (ev_asI.mpr ?_)))))))
    have ix : ixN ((cells.map D.int).length) (z.1 % 12) = some (z.1 % 12).toNat := by
      unfold ixN
      rw [List.length_map, l12, if_pos m0.1, if_pos (show z.1 % 12 < ((12 : Nat) : Int) from m0.2)]
    rw [ix]
    have st : (cells.map D.int).set (z.1 % 12).toNat (.int (c + z.2)) = (cells.set (z.1 % 12).toNat (c + z.2)).map D.int := by rw [List.map_set]
    show dForL openTg openBd _ _ [some (.d sc), some (.own ((cells.map D.int).set (z.1 % 12).toNat (.int (c + z.2)))), some (.d (.int z.1)), some (.d (.int z.2))] n
    rw [st]
    exact open_loop sc n p r xs _ _ _ o k (fun _ => by rw [List.length_set]; exact l12) h
theorem open_ok : ∀ l n Q E, tfOpen l n Q E → bodyTFf 4 b__law_open l n Q E := by
  intro l n Q E ⟨ns, e, h1, q⟩
  subst e
  show b__law_open E ⟨fun _ _ => False, Q, fun _ _ => False, fun _ _ => False⟩ [some (.d (.ro (ns.map .int))), none, none, none] n
  unfold b__law_open
  have c1 : cutD (ns.map D.int) none (some 12) = (ns.take 12).map .int := by
    unfold cutD
    rw [HT.sIx_none, show (some 12 : Option Int) = some ((12 : Nat) : Int) from rfl, HT.sIx_nat, List.drop_zero, Nat.sub_zero, List.length_map, List.map_take]
    by_cases c : 12 ≤ ns.length
    · rw [Nat.min_eq_left c]
    · rw [Nat.min_eq_right (by omega), List.take_of_length_le (by rw [List.length_map]; omega), List.take_of_length_le (by rw [List.length_map]; omega)]
  have c2 : cutD (ns.map D.int) (some 12) (some 63) = (ns.drop 12).map .int := by
    unfold cutD
    rw [show (some 12 : Option Int) = some ((12 : Nat) : Int) from rfl, show (some 63 : Option Int) = some ((63 : Nat) : Int) from rfl, HT.sIx_nat, HT.sIx_nat, List.length_map, List.map_drop]
    by_cases c : 12 ≤ ns.length
    · rw [Nat.min_eq_left c, List.take_of_length_le (by rw [List.length_drop, List.length_map]; omega)]
    · rw [Nat.min_eq_right (by omega), List.drop_of_length_le (by rw [List.length_map]; omega), List.drop_of_length_le (by rw [List.length_map]; omega), List.take_nil]
  with_reducible refine s_seq.mpr (s_setO.mpr (s_1.mpr (s_sl.mpr (var_at rfl (s_no.mpr (s_pt.mpr (s_C.mpr (ev_asI.mpr (ev_slro.mpr (ev_toL.mpr (ev_asL.mpr ?_)))))))))))
  rw [c1]
  show dSeq _ _ _ [some (.d (.ro (ns.map .int))), some (.own ((ns.take 12).map .int)), none, none] n
  with_reducible refine s_seq.mpr (s_for.mpr (s_iEL.mpr (s_sl.mpr (var_at rfl (s_pt.mpr (s_C.mpr (ev_asI.mpr (s_pt.mpr (s_C.mpr (ev_asI.mpr (ev_slro.mpr (ev_asL.mpr ?_))))))))))))
  rw [c2, enum_ints]
  refine open_loop _ n _ _ _ _ none none _ _ (fun hne => ?_) fun cells a b => ?_
  · have z : (ns.drop 12).length ≠ 0 := fun z => hne (by rw [z]; rfl)
    rw [List.length_drop] at z
    rw [List.length_take]
    omega
  · refine s_frz.mpr (ev_some.mpr ?_)
    show dRet _ _ [some (.d (.ro (ns.map .int))), some (.d (.lst (cells.map .int))), a, b] n
    with_reducible refine s_ret.mpr (s_lst.mpr (s_cons.mpr (var_at rfl (s_cons.mpr (s_C.mpr (s_cons.mpr (s_C.mpr (s_nil.mpr (And.intro ?_ ?_)))))))))
    · simp
    exact q cells
end PenM

set_option Elab.async false
set_option linter.all false
set_option maxRecDepth 100000
set_option maxHeartbeats 4000000
namespace VD
open PySem L2
/-! ### the meanings of loops and comprehensions, by induction -/
theorem opt_of {α : Type} {o : Option α} {x : α} {k : α → Prop} (h : o = some x) (q : k x) : opt o k := by
  rw [h]
  exact q
theorem s_Tr {t : TD} {e : En} {n : Nat} {R : Bool → Nat → Prop} : dTr t e n R ↔ t e n fun x m => opt (tru x) fun b => R b m := ⟨fun h => h, fun h => h⟩
theorem ev_truB {b : Bool} {k : Bool → Prop} (h : k b) : opt (tru (.bl b)) k := h
theorem s_mt {f : D → D → Option D} {t u : TD} {e : En} {n : Nat} {Q : DK} : dMt f t u e n Q ↔ t e n fun x m => opt (asL x) fun _ => u e m fun y k => opt (f x y) fun z => Q z k := ⟨fun h => h, fun h => h⟩
theorem s_ext {i n : Nat} {e : En} {t : TD} {p : En → Nat → Prop} {r : DK} {o k : En → Nat → Prop} : dExt i t ⟨p, r, o, k⟩ e n ↔ opt (ownAt e i) fun l => t e n fun x m => opt (asL x) fun k => l.length + k.length ≤ 100000 ∧ p (e.set i (some (.own (l ++ k)))) m := ⟨fun h => h, fun h => h⟩
theorem own_slot {e : En} {i : Nat} {l : List D} (h : e[i]? = some (some (.own l))) : ownAt e i = some l := by
  unfold ownAt
  rw [h]
theorem app_at {i n : Nat} {e : En} {l : List D} {t : TD} {p : En → Nat → Prop} {r : DK} {o k : En → Nat → Prop} (h : e[i]? = some (some (.own l))) (q : t e n fun x m => l.length < 100000 ∧ p (e.set i (some (.own (l ++ [x])))) m) : dApp i t ⟨p, r, o, k⟩ e n := s_app.mpr (opt_of (own_slot h) q)
theorem ext_at {i n : Nat} {e : En} {l : List D} {t : TD} {p : En → Nat → Prop} {r : DK} {o k : En → Nat → Prop} (h : e[i]? = some (some (.own l))) (q : t e n fun x m => opt (asL x) fun k => l.length + k.length ≤ 100000 ∧ p (e.set i (some (.own (l ++ k)))) m) : dExt i t ⟨p, r, o, k⟩ e n := s_ext.mpr (opt_of (own_slot h) q)
theorem frz_at {i n : Nat} {e : En} {l : List D} {a : TSD} {p : En → Nat → Prop} {r : DK} {o k : En → Nat → Prop} (h : e[i]? = some (some (.own l))) (q : a ⟨p, r, o, k⟩ (e.set i (some (.d (.lst l)))) n) : dFrz i a ⟨p, r, o, k⟩ e n := s_frz.mpr (opt_of (own_slot h) q)
theorem s_lc {ti : TID} {vs : List Nat} {g : GD} {c : TTD} {te : TD} {e : En} {n : Nat} {Q : DK} : dLc ti vs g c te e n Q ↔ ti e n fun l m => l.length ≤ 100000 ∧ dLcL g c te (wipeE e vs) l [] m Q := ⟨fun h => h, fun h => h⟩
theorem s_iL {t : TD} {e : En} {n : Nat} {W : List D → Nat → Prop} : iL t e n W ↔ t e n fun x m => opt (asL x) fun l => W l m := ⟨fun h => h, fun h => h⟩
theorem s_iT {t : TD} {e : En} {n : Nat} {W : List D → Nat → Prop} : iT t e n W ↔ t e n fun x m => opt (asTp x) fun l => W l m := ⟨fun h => h, fun h => h⟩
theorem s_iR1 {t : TD} {e : En} {n : Nat} {W : List D → Nat → Prop} : iR1 t e n W ↔ t e n fun x m => opt (asI x) fun j => (-1000000 < j ∧ j < 1000000) ∧ W (rngD 0 j.toNat) m := ⟨fun h => h, fun h => h⟩
theorem s_iR2 {t u : TD} {e : En} {n : Nat} {W : List D → Nat → Prop} : iR2 t u e n W ↔ t e n fun x m => u e m fun y k => opt (asI x) fun i => opt (asI y) fun j => (-1000000 < i ∧ i < 1000000 ∧ -1000000 < j ∧ j < 1000000) ∧ W (rngD i (j - i).toNat) k := ⟨fun h => h, fun h => h⟩
theorem s_iZp {t u : TD} {e : En} {n : Nat} {W : List D → Nat → Prop} : iZp t u e n W ↔ t e n fun x m => u e m fun y k => opt (asLL x y) fun p => W (zipD p.1 p.2) k := ⟨fun h => h, fun h => h⟩
theorem s_iET {t : TD} {e : En} {n : Nat} {W : List D → Nat → Prop} : iET t e n W ↔ t e n fun x m => opt (asTp x) fun l => W (enumD l) m := ⟨fun h => h, fun h => h⟩
theorem s_exc0 {C : Addr} {t : TD} {e : En} {n : Nat} {Q : DK} : dExc0 C t e n Q ↔ t e n fun _ m => Q (.exc C "" []) m := ⟨fun h => h, fun h => h⟩
theorem s_exc1 {C : Addr} {fl : Str} {t : TD} {e : En} {n : Nat} {Q : DK} : dExc1 C fl t e n Q ↔ t e n fun y m => Q (.exc C fl [y]) m := ⟨fun h => h, fun h => h⟩
theorem s_yes {e : En} {n : Nat} {R : Bool → Nat → Prop} : dYes e n R ↔ R true n := ⟨fun h => h, fun h => h⟩
theorem cat_at {x y : Str} {k : D → Prop} (h : x.length + y.length ≤ 10000000) (q : k (.str (x ++ y))) : opt (fCatS (.str x) (.str y)) k := opt_of (if_pos h) q
theorem rep_at {x : Str} {n : Int} {k : D → Prop} (h : 2 ≤ n ∧ n ≤ 1000 ∧ 1 ≤ x.length ∧ x.length ≤ 1000) (q : k (.str (repS x n))) : opt (fRepS (.str x) (.int n)) k := opt_of (if_pos h) q
theorem arg1 {x : D} {p : Prop} (h : p) : [x].length = 1 ∧ p := ⟨rfl, h⟩
theorem arg2 {x y : D} {p : Prop} (h : p) : [x, y].length = 2 ∧ p := ⟨rfl, h⟩
theorem arg3 {x y z : D} {p : Prop} (h : p) : [x, y, z].length = 3 ∧ p := ⟨rfl, h⟩
theorem arg4 {x y z u : D} {p : Prop} (h : p) : [x, y, z, u].length = 4 ∧ p := ⟨rfl, h⟩
theorem if_t {a b : Prop} (h : a) : if true = true then a else b := h
theorem if_f {a b : Prop} (h : b) : if false = true then a else b := h
theorem bt_if {a b : Prop} {q : Bool} (h1 : q = true → a) (h2 : q = false → b) : if q = true then a else b := by
  cases q with
  | true => exact h1 rfl
  | false => exact h2 rfl
section
variable {g : GD} {c : TTD} {te : TD} {e0 : En} {Q : DK}
theorem lc_ind (J : List D → List D → Nat → Prop) (h0 : ∀ acc m, J [] acc m → Q (.lst acc) m)
    (h1 : ∀ x xs acc m (R : List D → Nat → Prop), J (x :: xs) acc m → (∀ acc' m', J xs acc' m' → R acc' m') → opt (g x e0) fun e' => c e' m fun b m1 => if b = true then te e' m1 fun y m2 => R (acc ++ [y]) m2 else R acc m1) :
    ∀ xs acc m, J xs acc m → dLcL g c te e0 xs acc m Q
  | [], acc, m, j => h0 acc m j
  | x :: xs, acc, m, j => h1 x xs acc m (fun acc m => dLcL g c te e0 xs acc m Q) j fun acc' m' j' => lc_ind J h0 h1 xs acc' m' j'
/-- each item gives one, the pen stays -/
theorem lc_map {ι : Type} (a b : ι → D) {m : Nat} : ∀ (l : List ι) (acc : List D), (∀ i ∈ l, ∀ (R : DK) (S : Nat → Prop), R (b i) m → opt (g (a i) e0) fun e' => c e' m fun q m1 => if q = true then te e' m1 R else S m1) → Q (.lst (acc ++ l.map b)) m → dLcL g c te e0 (l.map a) acc m Q
  | [], acc, _, q => by
    rw [List.map_nil, List.append_nil] at q
    exact q
  | i :: l, acc, h, q => h i List.mem_cons_self (fun y m2 => dLcL g c te e0 (l.map a) (acc ++ [y]) m2 Q) _ (lc_map a b l (acc ++ [b i]) (fun j hj => h j (List.mem_cons_of_mem _ hj)) (by
      rw [List.map_cons] at q
      rw [List.append_assoc]
      exact q))
/-- each item is tested, and gives one where the test holds; the pen stays -/
theorem lc_filter {ι : Type} (a b : ι → D) (p : ι → Bool) {m : Nat} : ∀ (l : List ι) (acc : List D), (∀ i ∈ l, ∀ (R : DK) (S : Nat → Prop), (p i = true → R (b i) m) → (p i = false → S m) → opt (g (a i) e0) fun e' => c e' m fun q m1 => if q = true then te e' m1 R else S m1) →
    Q (.lst (acc ++ (l.filter p).map b)) m → dLcL g c te e0 (l.map a) acc m Q
  | [], acc, _, q => by
    rw [List.filter_nil, List.map_nil, List.append_nil] at q
    exact q
  | i :: l, acc, h, q => h i List.mem_cons_self (fun y m2 => dLcL g c te e0 (l.map a) (acc ++ [y]) m2 Q) (fun m2 => dLcL g c te e0 (l.map a) acc m2 Q)
      (fun hp => lc_filter a b p l (acc ++ [b i]) (fun j hj => h j (List.mem_cons_of_mem _ hj)) (by
        rw [List.filter_cons_of_pos hp, List.map_cons] at q
        rw [List.append_assoc]
        exact q))
      (fun hp => lc_filter a b p l acc (fun j hj => h j (List.mem_cons_of_mem _ hj)) (by
        rw [List.filter_cons_of_neg (by rw [hp]; exact Bool.false_ne_true)] at q
        exact q))
end
section
variable {g : GD} {tb : TSD} {p : En → Nat → Prop} {r : DK} {o k : En → Nat → Prop}
theorem for_ind (J : List D → En → Nat → Prop) (h0 : ∀ e n, J [] e n → p e n)
    (h1 : ∀ x xs e n (q : En → Nat → Prop), J (x :: xs) e n → (∀ e' n', J xs e' n' → q e' n') → opt (g x e) fun e' => tb ⟨q, r, p, q⟩ e' n) :
    ∀ xs e n, J xs e n → dForL g tb xs ⟨p, r, o, k⟩ e n
  | [], e, n, j => h0 e n j
  | x :: xs, e, n, j => h1 x xs e n (dForL g tb xs ⟨p, r, o, k⟩) j fun e' n' j' => for_ind J h0 h1 xs e' n' j'
end
end VD

set_option Elab.async false
set_option linter.all false
set_option maxRecDepth 100000
set_option maxHeartbeats 4000000
namespace VD
open PySem L2
/-! ### data of bounded depth and text -/
def FineP (d L : Nat) (p : PyData) : Prop := p.showable = true ∧ p.hasDict = false ∧ p.canLay0 = true ∧ p.depth ≤ d ∧ p.shown.length ≤ L
def Fine (d L : Nat) (x : D) : Prop := ∃ p, toP x = some p ∧ FineP d L p
theorem FineP.mono {d L d' L' : Nat} {p : PyData} (h : FineP d L p) (a : d ≤ d') (b : L ≤ L') : FineP d' L' p := ⟨h.1, h.2.1, h.2.2.1, Nat.le_trans h.2.2.2.1 a, Nat.le_trans h.2.2.2.2 b⟩
theorem Fine.mono {d L d' L' : Nat} {x : D} (h : Fine d L x) (a : d ≤ d') (b : L ≤ L') : Fine d' L' x := let ⟨p, e, h⟩ := h; ⟨p, e, h.mono a b⟩
theorem fine_non : Fine 0 4 .non := ⟨_, rfl, rfl, rfl, rfl, Nat.le_refl _, by decide +kernel⟩
theorem fine_bl (b : Bool) : Fine 0 5 (.bl b) := ⟨.bool b, rfl, rfl, rfl, rfl, Nat.le_refl _, by cases b <;> decide +kernel⟩
theorem fine_str {x : Str} {L : Nat} (h : PyData.canLay0 (.str x) = true) (h2 : (PySem.reprText x).length ≤ L) : Fine 0 L (.str x) := ⟨.str x, rfl, rfl, rfl, h, Nat.le_refl _, h2⟩
theorem fine_all {d L : Nat} : ∀ {l : List D}, (∀ y ∈ l, Fine d L y) → ∃ ps, toPs l = some ps ∧ ps.length = l.length ∧ PyData.showableAll ps = true ∧ PyData.hasDictAll ps = false ∧ PyData.canLayAll0 ps = true ∧ PyData.depthAll ps ≤ d ∧ piled (PyData.shownAll ps) ≤ l.length * (L + 2)
  | [], _ => ⟨[], rfl, rfl, rfl, rfl, rfl, Nat.zero_le _, Nat.zero_le _⟩
  | y :: l, h => by
    obtain ⟨p, e, h1, h2, h3, h4, h5⟩ := h y List.mem_cons_self
    obtain ⟨ps, e', l1, g1, g2, g3, g4, g5⟩ := fine_all (l := l) fun z hz => h z (List.mem_cons_of_mem _ hz)
    refine ⟨p :: ps, ?_, ?_, ?_, ?_, ?_, ?_, ?_⟩
    · unfold toPs
      rw [e, e']
    · rw [List.length_cons, List.length_cons, l1]
    · unfold PyData.showableAll
      rw [h1, g1]
      rfl
    · unfold PyData.hasDictAll
      rw [h2, g2]
      rfl
    · unfold PyData.canLayAll0
      rw [h3, g3]
      rfl
    · unfold PyData.depthAll
      exact Nat.max_le.mpr ⟨h4, g4⟩
    · unfold PyData.shownAll
      rw [piled_cons, List.length_cons, Nat.add_mul]
      omega
theorem listText_len (ts : List Str) : (listText ts).length ≤ piled ts + 2 := by
  cases ts with
  | nil => decide +kernel
  | cons t r =>
    have h := textFrom_length_pos r 1 (("[" : Str) ++ (if (0 : Nat) > 0 then ", " else "" : String) ++ t) (Nat.succ_pos 0)
    have e : (("[" : Str) ++ (if (0 : Nat) > 0 then ", " else "" : String) ++ t).length = 1 + t.length := by
      rw [strLen_append, strLen_append]
      rfl
    have hX : (listText (t :: r)).length = (textFrom 0 "[" (t :: r)).length + 1 := by
      show (textFrom 0 "[" (t :: r) ++ "]").length = _
      rw [strLen_append]
      rfl
    have hY : (textFrom 0 "[" (t :: r)).length = (textFrom 1 (("[" : Str) ++ (if (0 : Nat) > 0 then ", " else "" : String) ++ t) r).length := rfl
    rw [hX, hY, h, e, piled_cons]
    omega
theorem tupleText_len (ts : List Str) : (tupleText ts).length ≤ piled ts + 4 := by
  unfold tupleText
  rw [strLen_append, strLen_append]
  have a : (("(" : Str)).length = 1 := rfl
  have b : ((if ts.length == 1 then ",)" else ")" : String) : Str).length ≤ 2 := by
    split <;> decide +kernel
  have c : (Str.join ", " ts).length ≤ piled ts := by
    cases ts with
    | nil => decide +kernel
    | cons t r =>
      have := join_length_add (t :: r) (by simp)
      omega
  omega
theorem fine_lst {d L : Nat} {l : List D} {m : Nat} (h : ∀ y ∈ l, Fine d L y) (hm : l.length ≤ m) : Fine (d + 1) (m * (L + 2) + 4) (.lst l) := by
  obtain ⟨ps, e, l1, g1, g2, g3, g4, g5⟩ := fine_all h
  refine ⟨.list ps, toP_lst e, g1, g2, g3, ?_, ?_⟩
  · show PyData.depthAll ps + 1 ≤ d + 1
    omega
  · have z := listText_len (PyData.shownAll ps)
    have y : l.length * (L + 2) ≤ m * (L + 2) := Nat.mul_le_mul_right _ hm
    show (listText (PyData.shownAll ps)).length ≤ _
    omega
theorem fine_tup {d L : Nat} {l : List D} {m : Nat} (h : ∀ y ∈ l, Fine d L y) (hm : l.length ≤ m) : Fine (d + 1) (m * (L + 2) + 4) (.tup l) := by
  obtain ⟨ps, e, l1, g1, g2, g3, g4, g5⟩ := fine_all h
  refine ⟨.tuple ps, toP_tup e, g1, g2, g3, ?_, ?_⟩
  · show PyData.depthAll ps + 1 ≤ d + 1
    omega
  · have z := tupleText_len (PyData.shownAll ps)
    have y : l.length * (L + 2) ≤ m * (L + 2) := Nat.mul_le_mul_right _ hm
    show (tupleText (PyData.shownAll ps)).length ≤ _
    omega
theorem Fine.shp {d L : Nat} {x : D} (h : Fine d L x) (hd : d ≤ 64) : ∃ p, toP x = some p ∧ SeqAt.shaped p = true ∧ p.canLay0 = true := by
  obtain ⟨p, e, h1, h2, h3, h4, h5⟩ := h
  refine ⟨p, e, ?_, h3⟩
  unfold SeqAt.shaped
  rw [h3, decide_eq_true (by omega : p.depth ≤ 64)]
  rfl
theorem Fine.eq {d L : Nat} {x : D} (h : Fine d L x) (hd : d ≤ 64) : fEq x x = some (.bl true) := by
  obtain ⟨p, e, s, c⟩ := h.shp hd
  unfold fEq
  rw [e]
  show (if (SeqAt.shaped p && SeqAt.shaped p) = true then _ else _) = _
  rw [s, SeqAt.eqv_refl p c]
  rfl
theorem Fine.ne {d L : Nat} {x : D} (h : Fine d L x) (hd : d ≤ 64) : fNe x x = some (.bl false) := by
  obtain ⟨p, e, s, c⟩ := h.shp hd
  unfold fNe
  rw [e]
  show (if (SeqAt.shaped p && SeqAt.shaped p) = true then _ else _) = _
  rw [s, SeqAt.eqv_refl p c]
  rfl
/-! ### the text of data is a text -/
theorem strOk_mk {a : Array Nat} : PyData.strOk ⟨a⟩ = true ↔ ∀ c ∈ a.toList, c < 0x110000 := by
  unfold PyData.strOk
  rw [← Array.all_toList, List.all_eq_true]
  simp only [decide_eq_true_eq]
theorem strOk_append {x y : Str} (hx : PyData.strOk x = true) (hy : PyData.strOk y = true) : PyData.strOk (x ++ y) = true := by
  obtain ⟨a⟩ := x
  obtain ⟨b⟩ := y
  show PyData.strOk ⟨a ++ b⟩ = true
  rw [strOk_mk] at hx hy ⊢
  intro c hc
  rw [Array.toList_append, List.mem_append] at hc
  rcases hc with hc | hc
  · exact hx c hc
  · exact hy c hc
theorem char_lt (c : Char) : c.toNat < 0x110000 := by
  have h := c.valid
  rcases h with h | ⟨_, h⟩
  · show c.val.toNat < _
    omega
  · show c.val.toNat < _
    omega
theorem strOk_ofString (s : String) : PyData.strOk (Str.ofString s) = true := by
  rw [Str.ofString_eq_toList, strOk_mk]
  intro c hc
  simp only [List.mem_map] at hc
  obtain ⟨d, _, rfl⟩ := hc
  exact char_lt d
theorem reprChar_lt {q c : Nat} (hc : c < 0x110000) : ∀ z ∈ Builtin.Str.reprChar q c, z < 0x110000 := by
  intro z hz
  unfold Builtin.Str.reprChar at hz
  dsimp only at hz
  have hex : ∀ (w : Nat) (l : List Nat), (∀ y ∈ l, y < 0x110000) → z ∈ l ++ (List.replicate (w - ((Nat.toDigits 16 c).map Char.toNat).length) 48 ++ (Nat.toDigits 16 c).map Char.toNat) → z < 0x110000 := by
    intro w l hl h
    rw [List.mem_append, List.mem_append] at h
    rcases h with h | h | h
    · exact hl z h
    · rw [(List.mem_replicate.mp h).2]
      omega
    · obtain ⟨d, _, rfl⟩ := List.mem_map.mp h
      exact char_lt d
  repeat' split at hz
  all_goals first
    | (refine hex _ _ ?_ hz; intro y hy; simp at hy; omega)
    | (simp at hz; omega)
theorem strOk_repr {x : Str} (h : PyData.strOk x = true) : PyData.strOk (reprText x) = true := by
  obtain ⟨a⟩ := x
  rw [strOk_mk] at h
  unfold reprText
  rw [strOk_mk]
  have hq : reprQuote ⟨a⟩ < 0x110000 := by
    unfold reprQuote
    split <;> omega
  have main : ∀ (l : List Nat) (acc : Array Nat), (∀ c ∈ l, c < 0x110000) → (∀ c ∈ acc.toList, c < 0x110000) → ∀ c ∈ (l.foldl (fun out c => out ++ (Builtin.Str.reprChar (reprQuote ⟨a⟩) c).toArray) acc).toList, c < 0x110000 := by
    intro l
    induction l with
    | nil => intro acc _ h2; exact h2
    | cons c l ih =>
      intro acc h1 h2
      refine ih _ (fun d hd => h1 d (List.mem_cons_of_mem _ hd)) fun d hd => ?_
      rw [Array.toList_append, List.mem_append] at hd
      rcases hd with hd | hd
      · exact h2 d hd
      · exact reprChar_lt (h1 c List.mem_cons_self) d (by simpa using hd)
  intro c hc
  rw [Array.toList_push, List.mem_append] at hc
  rcases hc with hc | hc
  · rw [← Array.foldl_toList] at hc
    exact main _ _ h (fun d hd => by simp at hd; omega) c hc
  · simp at hc
    omega
theorem strOk_text : ∀ (ts : List Str) (k : Nat) (acc : Str), (∀ t ∈ ts, PyData.strOk t = true) → PyData.strOk acc = true → PyData.strOk (textFrom k acc ts) = true
  | [], _, _, _, h => h
  | t :: ts, k, acc, h1, h2 => by
    unfold textFrom
    refine strOk_text ts (k + 1) _ (fun u hu => h1 u (List.mem_cons_of_mem _ hu)) (strOk_append (strOk_append h2 ?_) (h1 t List.mem_cons_self))
    exact strOk_ofString _
theorem strOk_join : ∀ (ts : List Str), (∀ t ∈ ts, PyData.strOk t = true) → PyData.strOk (Str.join ", " ts) = true
  | [], _ => by decide +kernel
  | [t], h => h t List.mem_cons_self
  | t :: u :: ts, h => by
    show PyData.strOk (t ++ ", " ++ Str.join ", " (u :: ts)) = true
    exact strOk_append (strOk_append (h t List.mem_cons_self) (strOk_ofString _)) (strOk_join (u :: ts) fun w hw => h w (List.mem_cons_of_mem _ hw))
mutual
theorem shown_ok : ∀ p : PyData, p.canLay0 = true → PyData.strOk p.shown = true
  | .none, _ => by decide +kernel
  | .bool b, _ => by cases b <;> decide +kernel
  | .int i, _ => strOk_ofString _
  | .str x, h => strOk_repr h
  | .list xs, h => by
    show PyData.strOk (listText (PyData.shownAll xs)) = true
    unfold listText
    exact strOk_append (strOk_text _ _ _ (shownAll_ok xs h) (strOk_ofString _)) (strOk_ofString _)
  | .tuple xs, h => by
    show PyData.strOk (tupleText (PyData.shownAll xs)) = true
    unfold tupleText
    exact strOk_append (strOk_append (strOk_ofString _) (strOk_join _ (shownAll_ok xs h))) (strOk_ofString _)
  | .dict _, h => nomatch h
theorem shownAll_ok : ∀ ps : List PyData, PyData.canLayAll0 ps = true → ∀ t ∈ PyData.shownAll ps, PyData.strOk t = true
  | [], _, _, ht => nomatch ht
  | p :: ps, h, t, ht => by
    have h' : p.canLay0 = true ∧ PyData.canLayAll0 ps = true := by simpa [PyData.canLayAll0] using h
    have ht' : t ∈ p.shown :: PyData.shownAll ps := ht
    rcases List.mem_cons.mp ht' with rfl | ht'
    · exact shown_ok p h'.1
    · exact shownAll_ok ps h'.2 t ht'
end
theorem Fine.repr {d L : Nat} {x : D} (h : Fine d L x) (hd : d ≤ 60) (hL : L ≤ 10000000) : ∃ r, fRepr x = some (.str r) ∧ r.length ≤ L ∧ PyData.strOk r = true := by
  obtain ⟨p, e, h1, h2, h3, h4, h5⟩ := h
  refine ⟨p.shown, ?_, h5, shown_ok p h3⟩
  unfold fRepr
  rw [e]
  refine if_pos ?_
  unfold okP
  rw [h1, h2, decide_eq_true (by omega : p.depth ≤ 60), decide_eq_true (by rw [sizeLine_eq]; omega : p.shown.length ≤ sizeLine)]
  rfl
theorem toPs_strs : ∀ ss : List Str, toPs (ss.map D.str) = some (ss.map PyData.str)
  | [] => rfl
  | s :: ss => by
    show toPs (.str s :: ss.map D.str) = _
    unfold toPs
    rw [toPs_strs ss]
    rfl
theorem shp_strs {ss : List Str} (h : ∀ s ∈ ss, PyData.strOk s = true) : SeqAt.shaped (.list (ss.map PyData.str)) = true := by
  have a : PyData.canLay0 (.list (ss.map PyData.str)) = true := by
    show PyData.canLayAll0 (ss.map PyData.str) = true
    rw [PyProof.Rows.canLayAll_strs', List.all_eq_true]
    exact h
  have b : ∀ l : List Str, PyData.depthAll (l.map PyData.str) = 0 := by
    intro l
    induction l with
    | nil => rfl
    | cons s l ih =>
      show max 0 (PyData.depthAll (l.map PyData.str)) = 0
      rw [ih]
      rfl
  unfold SeqAt.shaped
  rw [a]
  refine decide_eq_true ?_
  show PyData.depthAll (ss.map PyData.str) + 1 ≤ 64
  rw [b]
  omega
theorem strs_ne {ss : List Str} (h : ∀ s ∈ ss, PyData.strOk s = true) : fNe (.lst (ss.map .str)) (.lst (ss.map .str)) = some (.bl false) := by
  have s := shp_strs h
  unfold fNe
  rw [toP_lst (toPs_strs ss)]
  show (if (SeqAt.shaped _ && SeqAt.shaped _) = true then _ else _) = _
  rw [s, SeqAt.eqv_refl _ (SeqAt.canLay_of_shaped s)]
  rfl
theorem str_ne {s : Str} (h : PyData.strOk s = true) : fNe (.str s) (.str s) = some (.bl false) := by
  have c : SeqAt.shaped (.str s) = true := by
    unfold SeqAt.shaped
    rw [show PyData.canLay0 (.str s) = true from h]
    rfl
  unfold fNe
  show (if (SeqAt.shaped (.str s) && SeqAt.shaped (.str s)) = true then _ else _) = _
  rw [c, SeqAt.eqv_refl (.str s) h]
  rfl
/-- of concrete data -/
def fineB (d L : Nat) (x : D) : Bool := match toP x with
  | some p => p.showable && !p.hasDict && p.canLay0 && decide (p.depth ≤ d) && decide (p.shown.length ≤ L)
  | none => false
theorem fineB_ok {d L : Nat} {x : D} (h : fineB d L x = true) : Fine d L x := by
  unfold fineB at h
  split at h
  · rename_i p e
    simp only [Bool.and_eq_true, Bool.not_eq_true', decide_eq_true_eq] at h
    obtain ⟨⟨⟨⟨h1, h2⟩, h3⟩, h4⟩, h5⟩ := h
    exact ⟨p, e, h1, h2, h3, h4, h5⟩
  · cases h
end VD

set_option Elab.async false
set_option linter.all false
set_option maxRecDepth 100000
set_option maxHeartbeats 4000000
namespace M04
open PySem L2 VD PenM
def b__law_refusal (K : PySem.W.Frag) (C_InvalidPlan : Addr) (C_Unsound : Addr) (C_InvalidMoment : Addr) (C_InvalidFlags : Addr) (C_InvalidChoices : Addr) (C_InvalidNumber : Addr) (C_SameQueue : Addr) (C_RingMade : Addr) (C_TooMany : Addr) (C_NothingFinished : Addr) (C_NotACertificate : Addr) (C_UnknownJob : Addr) (C_UnknownWait : Addr) (C_WaitTaken : Addr) (C_InvalidQueue : Addr) (C_Ended : Addr) (C_Blocked : Addr) (C_FlagUp : Addr) (C_NotReady : Addr) (C_Finished : Addr) (C_Full : Addr) (C_InvalidMark : Addr) (C_PlanError : Addr) (t__law_kept : TF) : EK → TSD := fun E => (dSeq (dSetO 1 (dLst (dCons (dIsX K (.ref C_InvalidPlan) (dVar 0)) (dCons (dIsX K (.ref C_Unsound) (dVar 0)) (dCons (dIsX K (.ref C_InvalidMoment) (dVar 0)) dNil))))) (dSeq (dSetO 1 (d2 fCatL (dOwn 1) (dLst (dCons (dIsX K (.ref C_InvalidFlags) (dVar 0)) (dCons (dIsX K (.ref C_InvalidChoices) (dVar 0)) dNil))))) (dSeq (dSetO 1 (d2 fCatL (dOwn 1) (dLst (dCons (dIsX K (.ref C_InvalidNumber) (dVar 0)) (dCons (dIsX K (.ref C_SameQueue) (dVar 0)) (dCons (dIsX K (.ref C_RingMade) (dVar 0)) dNil)))))) (dSeq (dSetO 1 (d2 fCatL (dOwn 1) (dLst (dCons (dIsX K (.ref C_TooMany) (dVar 0)) (dCons (dIsX K (.ref C_NothingFinished) (dVar 0)) dNil))))) (dSeq (dApp 1 (dIsX K (.ref C_NotACertificate) (dVar 0))) (dSeq (dSet 2 (dLst (dCons (dIsX K (.ref C_UnknownJob) (dVar 0)) (dCons (dIsX K (.ref C_UnknownWait) (dVar 0)) (dCons (dIsX K (.ref C_WaitTaken) (dVar 0)) dNil))))) (dSeq (dSet 2 (d2 fCatL (dVar 2) (dLst (dCons (dIsX K (.ref C_InvalidQueue) (dVar 0)) (dCons (dIsX K (.ref C_Ended) (dVar 0)) (dCons (dIsX K (.ref C_Blocked) (dVar 0)) dNil)))))) (dSeq (dSet 2 (d2 fCatL (dVar 2) (dLst (dCons (dIsX K (.ref C_FlagUp) (dVar 0)) (dCons (dIsX K (.ref C_NotReady) (dVar 0)) (dCons (dIsX K (.ref C_Finished) (dVar 0)) dNil)))))) (dSeq (dSet 2 (d2 fCatL (dVar 2) (dLst (dCons (dIsX K (.ref C_Full) (dVar 0)) (dCons (dIsX K (.ref C_InvalidMark) (dVar 0)) dNil))))) (dSeq (dSet 3 (d2 fCatL (dOwn 1) (dVar 2))) (dSeq (dIfS (dOrT (dT (d2 fNe (dMt fCnt (dVar 3) (dC (.bl true))) (dC (.int 1)))) (dOrT (dNotT (dTr (dIsX K (.ref C_PlanError) (dVar 0)))) (dNotT (dTr (dIsX K (.type "ValueError") (dVar 0)))))) (dRet (dC (.str "more"))) dNext) (dSeq (dSet 4 (dLst (dCons (dC (.str "plan")) (dCons (dC (.str "unsound")) (dCons (dC (.str "moment")) (dCons (dC (.str "flags")) (dCons (dC (.str "choices")) (dCons (dC (.str "number")) (dCons (dC (.str "same")) (dCons (dC (.str "ring")) (dCons (dC (.str "many")) (dCons (dC (.str "nothing")) dNil)))))))))))) (dSeq (dSet 4 (d2 fCatL (dVar 4) (dLst (dCons (dC (.str "certificate")) (dCons (dC (.str "job")) (dCons (dC (.str "wait")) (dCons (dC (.str "taken")) (dCons (dC (.str "queue")) (dCons (dC (.str "ended")) (dCons (dC (.str "blocked")) (dCons (dC (.str "up")) (dCons (dC (.str "not ready")) dNil)))))))))))) (dSeq (dSet 5 (d2 fIxL (d2 fCatL (dVar 4) (dLst (dCons (dC (.str "finished")) (dCons (dC (.str "full")) (dCons (dC (.str "mark")) dNil))))) (dMt fIdx (dVar 3) (dC (.bl true))))) (dRet (dIf (dT (d2 fIn (dC (.bl true)) (dOwn 1))) (dVar 5) (d2 fCatS (d2 fCatS (dVar 5) (dC (.str " "))) (d1 fRepr (dCall 2 t__law_kept E (dCons (dVar 0) (dCons (dVar 5) dNil)))))))))))))))))))))
def b__law_kept (K : PySem.W.Frag) : EK → TSD := fun E => (dSeq (dIfS (dT (d2 fIn (dVar 1) (dTup (dCons (dC (.str "job")) (dCons (dC (.str "not ready")) (dCons (dC (.str "finished")) dNil)))))) (dRet (dXat K "job" (dVar 0))) dNext) (dSeq (dIfS (dT (d2 fIn (dVar 1) (dTup (dCons (dC (.str "wait")) (dCons (dC (.str "taken")) dNil))))) (dRet (dXat K "wait" (dVar 0))) dNext) (dSeq (dIfS (dT (d2 fIn (dVar 1) (dTup (dCons (dC (.str "queue")) (dCons (dC (.str "ended")) (dCons (dC (.str "blocked")) dNil)))))) (dRet (dXat K "queue" (dVar 0))) dNext) (dRet (dIf (dT (d2 fEq (dVar 1) (dC (.str "up")))) (dXat K "flag" (dVar 0)) (dIf (dT (d2 fEq (dVar 1) (dC (.str "full")))) (dXat K "limit" (dVar 0)) (dXat K "number" (dVar 0))))))))
def b__law_value (t__law_one : TF) : EK → TSD := fun E => (dRet (dCall 2 t__law_one E (dCons (dVar 0) (dCons (dLst (dCons (dC .non) (dCons (dC (.bl true)) (dCons (dC (.str "")) (dCons (dC (.str "a")) (dCons (dC (.int 7)) (dCons (d2 fSub (dC (.int 0)) (dC (.int 3))) (dCons (dLst (dCons (dC (.str "a")) (dCons (dLst (dCons (dC (.int 1)) dNil)) dNil))) (dCons (dTup (dCons (dC (.str "x")) (dCons (dC .non) dNil))) (dCons (dLst dNil) (dCons (d2 fPow (dC (.int 10)) (dC (.int 20))) (dCons (d2 fRepS (dC (.str "A")) (dC (.int 50))) dNil)))))))))))) dNil))))
def b__law_errors (C_UnknownJob : Addr) (C_UnknownWait : Addr) (C_WaitTaken : Addr) (C_InvalidQueue : Addr) (C_Ended : Addr) (C_Blocked : Addr) (C_FlagUp : Addr) (C_NotReady : Addr) (C_Finished : Addr) (C_Full : Addr) (C_InvalidMark : Addr) : EK → TSD := fun E => (dSeq (dSet 1 (dLst (dCons (dExc1 C_UnknownJob "job" (d2 fIxL (dVar 0) (dC (.int 0)))) (dCons (dExc1 C_UnknownWait "wait" (d2 fIxL (dVar 0) (dC (.int 1)))) (dCons (dExc1 C_WaitTaken "wait" (d2 fIxL (dVar 0) (dC (.int 2)))) (dCons (dExc1 C_InvalidQueue "queue" (d2 fIxL (dVar 0) (dC (.int 3)))) dNil)))))) (dSeq (dSet 1 (d2 fCatL (dVar 1) (dLst (dCons (dExc1 C_Ended "queue" (d2 fIxL (dVar 0) (dC (.int 4)))) (dCons (dExc1 C_Blocked "queue" (d2 fIxL (dVar 0) (dC (.int 5)))) (dCons (dExc1 C_FlagUp "flag" (d2 fIxL (dVar 0) (dC (.int 6)))) (dCons (dExc1 C_NotReady "job" (d2 fIxL (dVar 0) (dC (.int 7)))) (dCons (dExc1 C_Finished "job" (d2 fIxL (dVar 0) (dC (.int 8)))) dNil)))))))) (dRet (d2 fCatL (dVar 1) (dLst (dCons (dExc1 C_Full "limit" (d2 fIxL (dVar 0) (dC (.int 9)))) (dCons (dExc1 C_InvalidMark "number" (d2 fIxL (dVar 0) (dC (.int 10)))) dNil)))))))
def b0_law (t__law_open : TF) : TSD := dSetO 1 (dCall 1 t__law_open E0d (dCons (dVar 0) dNil))
def b1_law (K : PySem.W.Frag) (C_InvalidPlan : Addr) (C_Unsound : Addr) (C_InvalidMoment : Addr) (C_InvalidFlags : Addr) (C_InvalidChoices : Addr) (C_InvalidNumber : Addr) (C_SameQueue : Addr) (C_RingMade : Addr) (C_TooMany : Addr) (C_NothingFinished : Addr) (C_NotACertificate : Addr) (C_PlanError : Addr) (t__law_one : TF) (t__law_anew : TF) (t__law_refusal : TF) (t__law_value : TF) (t__law_errors : TF) (E : EK) : TSD := (dSeq (dFor (iR1 (dC (.int 4))) (gNm 2) (dSeq (dSet 3 (dCall 2 t__law_one E (dCons (dCall 1 t__law_anew E (dCons (dVar 1) dNil)) (dCons (dLst (dCons (dC (.str "")) (dCons (dC (.str "no")) (dCons (dC (.str "not a plan")) (dCons (d2 fRepS (dC (.str "a")) (dC (.int 90))) dNil))))) dNil)))) (dSeq (dSet 4 (dLst (dCons (dExc0 C_InvalidPlan (dVar 3)) (dCons (dExc0 C_Unsound (dVar 3)) (dCons (dExc0 C_InvalidMoment (dVar 3)) (dCons (dExc0 C_InvalidFlags (dVar 3)) (dCons (dExc0 C_InvalidChoices (dVar 3)) dNil))))))) (dSeq (dSet 4 (d2 fCatL (dVar 4) (dLst (dCons (dExc0 C_InvalidNumber (dVar 3)) (dCons (dExc0 C_SameQueue (dVar 3)) (dCons (dExc0 C_RingMade (dVar 3)) (dCons (dExc0 C_TooMany (dVar 3)) (dCons (dExc0 C_NothingFinished (dVar 3)) dNil)))))))) (dSeq (dSet 5 (dLst (dCons (dC (.str "plan")) (dCons (dC (.str "unsound")) (dCons (dC (.str "moment")) (dCons (dC (.str "flags")) (dCons (dC (.str "choices")) (dCons (dC (.str "number")) (dCons (dC (.str "same")) (dCons (dC (.str "ring")) (dCons (dC (.str "many")) (dCons (dC (.str "nothing")) dNil)))))))))))) (dSeq (dIfS (dT (d2 fNe (dLc (iL (d2 fCatL (dVar 4) (dLst (dCons (dExc0 C_NotACertificate (dVar 3)) dNil)))) [10] (gNm 10) dYes (dCall 1 t__law_refusal E (dCons (dVar 10) dNil))) (d2 fCatL (dVar 5) (dLst (dCons (dC (.str "certificate")) dNil))))) (dRet (dC (.bl false))) dNext) (dSeq (dSetO 6 (dLc (iR1 (dC (.int 11))) [11] (gNm 11) dYes (dCall 1 t__law_value E (dCons (dVar 1) dNil)))) (dFrz 6 (dSeq (dSet 7 (d1 fRepr (dVar 6))) (dSeq (dSet 8 (dLst (dCons (dC (.str "job")) (dCons (dC (.str "wait")) (dCons (dC (.str "taken")) (dCons (dC (.str "queue")) (dCons (dC (.str "ended")) (dCons (dC (.str "blocked")) (dCons (dC (.str "up")) (dCons (dC (.str "not ready")) (dCons (dC (.str "finished")) (dCons (dC (.str "full")) (dCons (dC (.str "mark")) dNil))))))))))))) (dSeq (dSetO 5 (dLc (iZp (dVar 8) (dVar 6)) [12, 13] (gTp (gCn (gNm 12) (gCn (gNm 13) gNl))) dYes (d2 fCatS (d2 fCatS (dVar 12) (dC (.str " "))) (d1 fRepr (dVar 13))))) (dFrz 5 (dSeq (dIfS (dOrT (dT (d2 fNe (dLc (iL (dCall 1 t__law_errors E (dCons (dVar 6) dNil))) [10] (gNm 10) dYes (dCall 1 t__law_refusal E (dCons (dVar 10) dNil))) (dVar 5))) (dT (d2 fNe (d1 fRepr (dVar 6)) (dVar 7)))) (dRet (dC (.bl false))) dNext) (dSeq (dSet 9 (dExc0 C_PlanError (dVar 3))) (dIfS (dOrT (dNotT (dTr (dIsX K (.type "ValueError") (dVar 9)))) (dT (d2 fNe (dCall 1 t__law_refusal E (dCons (dVar 9) dNil)) (dC (.str "more"))))) (dRet (dC (.bl false))) dNext))))))))))))))) (dRet (dC (.bl true))))
/-! ### the classes, by numbers: eleven plain ones, eleven that keep a value, the base -/
def isv (i j : Nat) : Bool := i == j || j == 22
def fld (i : Nat) : Str := (["job", "wait", "wait", "queue", "queue", "queue", "flag", "job", "job", "limit", "number"] : List Str).getD (i - 11) ""
def wrd (i : Nat) : Str := (["plan", "unsound", "moment", "flags", "choices", "number", "same", "ring", "many", "nothing", "certificate", "job", "wait", "taken", "queue", "ended", "blocked", "up", "not ready", "finished", "full", "mark"] : List Str).getD i ""
structure ErrF (K : PySem.W.Frag) (cls : Nat → Addr) : Prop where
  ex : ∀ i, i < 23 → ExcC K (cls i)
  is : ∀ i j, i < 23 → j < 23 → PySem.W.kitOne K (.ref (cls i)) (.ref (cls j)) = some (isv i j)
  ve : ∀ i, i < 23 → PySem.W.kitOne K (.ref (cls i)) (.type "ValueError") = some true
  xf : ∀ i, 11 ≤ i → i < 22 → XfC K (cls i) ∧ PySem.W.findIn K (.ref (cls i)) (fld i) = some none
section
variable {K : PySem.W.Frag} {cls : Nat → Addr} {e : En} {n : Nat} {Q : DK} {fl : Str} {k : List D}
theorem isx_at (F : ErrF K cls) {i j v : Nat} (hi : i < 23) (hj : j < 23) (h : e[v]? = some (some (.d (.exc (cls i) fl k)))) (q : Q (.bl (isv i j)) n) : dIsX K (.ref (cls j)) (dVar v) e n Q := var_at h ⟨_, _, _, _, rfl, F.ex i hi, F.is i j hi hj, q⟩
theorem isv_at (F : ErrF K cls) {i v : Nat} (hi : i < 23) (h : e[v]? = some (some (.d (.exc (cls i) fl k)))) (q : Q (.bl true) n) : dIsX K (.type "ValueError") (dVar v) e n Q := var_at h ⟨_, _, _, _, rfl, F.ex i hi, F.ve i hi, q⟩
theorem xat_at (F : ErrF K cls) {i v : Nat} {y : D} {f : Str} (h1 : 11 ≤ i) (h2 : i < 22) (hf : fld i = f) (h : e[v]? = some (some (.d (.exc (cls i) (fld i) [y])))) (q : Q y n) : dXat K f (dVar v) e n Q := by
  subst hf
  exact var_at h ⟨_, y, rfl, (F.xf i h1 h2).1, (F.xf i h1 h2).2, q⟩
end
/-- what _law_kept is asked for -/
def tfKept (cls : Nat → Addr) : TF := fun l n Q _ => ∃ (i : Nat) (y : D), 11 ≤ i ∧ i < 22 ∧ l = [.exc (cls i) (fld i) [y], .str (wrd i)] ∧ Q y n
theorem kept_ok {K : PySem.W.Frag} {cls : Nat → Addr} (F : ErrF K cls) : ∀ l n Q E, tfKept cls l n Q E → bodyTF 2 (b__law_kept K) l n Q E := by
  intro l n Q E ⟨i, y, h1, h2, e, q⟩
  subst e
  show b__law_kept K E ⟨fun _ m => Q .non m, Q, fun _ _ => False, fun _ _ => False⟩ [some (.d (.exc (cls i) (fld i) [y])), some (.d (.str (wrd i)))] n
  unfold b__law_kept
  have hi : i = 11 ∨ i = 12 ∨ i = 13 ∨ i = 14 ∨ i = 15 ∨ i = 16 ∨ i = 17 ∨ i = 18 ∨ i = 19 ∨ i = 20 ∨ i = 21 := by omega
  rcases hi with rfl | rfl | rfl | rfl | rfl | rfl | rfl | rfl | rfl | rfl | rfl
  all_goals
    repeat' with_reducible first
      | refine s_next.mpr ?_
      | refine s_seq.mpr ?_
      | refine s_ifS.mpr ?_
      | refine s_if.mpr ?_
      | refine s_ret.mpr ?_
      | refine s_T.mpr ?_
      | refine s_2.mpr ?_
      | refine var_at rfl ?_
      | refine s_tup.mpr ?_
      | refine s_cons.mpr ?_
      | refine s_nil.mpr ?_
      | refine s_C.mpr ?_
      | refine And.intro (by decide) ?_
      | refine ev_asB.mpr ?_
      | refine if_t ?_
      | refine if_f ?_
      | refine opt_of (x := .bl true) (by with_unfolding_all rfl) ?_
      | refine opt_of (x := .bl false) (by with_unfolding_all rfl) ?_
      | exact xat_at F (by decide) (by decide) (by with_unfolding_all rfl) rfl q
/-! ### _law_refusal -/
theorem nat22 {i : Nat} (h : i < 22) : i = 0 ∨ i = 1 ∨ i = 2 ∨ i = 3 ∨ i = 4 ∨ i = 5 ∨ i = 6 ∨ i = 7 ∨ i = 8 ∨ i = 9 ∨ i = 10 ∨ i = 11 ∨ i = 12 ∨ i = 13 ∨ i = 14 ∨ i = 15 ∨ i = 16 ∨ i = 17 ∨ i = 18 ∨ i = 19 ∨ i = 20 ∨ i = 21 := by omega
def bls (i : Nat) : List D := [.bl (isv i 0), .bl (isv i 1), .bl (isv i 2), .bl (isv i 3), .bl (isv i 4), .bl (isv i 5), .bl (isv i 6), .bl (isv i 7), .bl (isv i 8), .bl (isv i 9), .bl (isv i 10), .bl (isv i 11), .bl (isv i 12), .bl (isv i 13), .bl (isv i 14), .bl (isv i 15), .bl (isv i 16), .bl (isv i 17), .bl (isv i 18), .bl (isv i 19), .bl (isv i 20), .bl (isv i 21)]
theorem cnt_ok {i : Nat} (h : i < 22) : fCnt (.lst (bls i)) (.bl true) = some (.int 1) := by
  rcases nat22 h with rfl | rfl | rfl | rfl | rfl | rfl | rfl | rfl | rfl | rfl | rfl | rfl | rfl | rfl | rfl | rfl | rfl | rfl | rfl | rfl | rfl | rfl <;> with_unfolding_all rfl
theorem cnt_22 : fCnt (.lst (bls 22)) (.bl true) = some (.int 0) := by with_unfolding_all rfl
theorem idx_ok {i : Nat} (h : i < 22) : fIdx (.lst (bls i)) (.bl true) = some (.int i) := by
  rcases nat22 h with rfl | rfl | rfl | rfl | rfl | rfl | rfl | rfl | rfl | rfl | rfl | rfl | rfl | rfl | rfl | rfl | rfl | rfl | rfl | rfl | rfl | rfl <;> with_unfolding_all rfl
theorem in_ok {i : Nat} (h : i < 22) : fIn (.bl true) (.lst ((bls i).take 11)) = some (.bl (decide (i < 11))) := by
  rcases nat22 h with rfl | rfl | rfl | rfl | rfl | rfl | rfl | rfl | rfl | rfl | rfl | rfl | rfl | rfl | rfl | rfl | rfl | rfl | rfl | rfl | rfl | rfl <;> with_unfolding_all rfl
end M04

set_option Elab.async false
set_option linter.all false
set_option maxRecDepth 100000
set_option maxHeartbeats 0
namespace K02
open PySem PySem.Spec PyProof.Rows L2 VD
open M04 (isv fld)
def topS (i : Nat) : Stmt := PySem.Challenge.pw_flagplans_k02_jobs.main.body.getD i (.Pass ⟨0, 0, 0, 0⟩)
def clsB (s : Stmt) : List Stmt := match s with
  | .ClassDef _ _ _ b .. => b
  | _ => []
abbrev s_is_int : Stmt := topS 28
abbrev s_is_pair : Stmt := topS 29
abbrev s_is_below : Stmt := topS 30
abbrev s_are_sizes : Stmt := topS 31
abbrev s_has_job : Stmt := topS 32
abbrev s_can_wait : Stmt := topS 33
abbrev s_are_waits : Stmt := topS 34
abbrev s_is_plan : Stmt := topS 35
abbrev s_check_plan : Stmt := topS 36
abbrev s_jobs_of : Stmt := topS 37
abbrev s_jobs : Stmt := topS 38
abbrev s_is_job : Stmt := topS 39
abbrev s__law_spread : Stmt := topS 41
abbrev s__law_open : Stmt := topS 42
abbrev s__law_anew : Stmt := topS 43
abbrev s__law_take : Stmt := topS 44
abbrev s__law_one : Stmt := topS 45
abbrev s__law_jobs : Stmt := topS 46
abbrev s__law_sizes : Stmt := topS 47
abbrev s__law_plan : Stmt := topS 48
abbrev s__law_any_plan : Stmt := topS 49
abbrev s__law_kept : Stmt := topS 52
abbrev s__law_refusal : Stmt := topS 51
abbrev s__law_bad_plan : Stmt := topS 53
abbrev s__law_told : Stmt := topS 54
abbrev s_law : Stmt := topS 55

def nm (i : Nat) : Str := (["InvalidPlan", "Unsound", "InvalidMoment", "InvalidFlags", "InvalidChoices", "InvalidNumber", "SameQueue", "RingMade", "TooMany", "NothingFinished", "NotACertificate", "UnknownJob", "UnknownWait", "WaitTaken", "InvalidQueue", "Ended", "Blocked", "FlagUp", "NotReady", "Finished", "Full", "InvalidMark", "PlanError"] : List Str).getD i ""
def cl (K : PySem.W.Frag) (i : Nat) : Addr := He.ga K (nm i)
def xfK (K : PySem.W.Frag) : Bool := (fun as : List Addr => (as.all fun a => excCB K a) && ((as.zipIdx.all fun a => as.zipIdx.all fun b => decide (PySem.W.kitOne K (.ref a.1) (.ref b.1) = some (isv a.2 b.2))) && ((as.all fun a => decide (PySem.W.kitOne K (.ref a) (.type "ValueError") = some true) && decide (PySem.W.exmOne K (.ref a) (.ref (cl K 22)) = some true)) && (as.zipIdx.all fun a => !(decide (11 ≤ a.2) && decide (a.2 < 22)) || xfB K a.1 && initB K a.1 (He.ma K a.1 "__init__") (fld a.2))))) ((List.range 23).map (cl K))

abbrev s_init_UnknownJob : Stmt := (clsB (topS 13)).getD 0 (.Pass ⟨0, 0, 0, 0⟩)
abbrev s_init_UnknownWait : Stmt := (clsB (topS 14)).getD 0 (.Pass ⟨0, 0, 0, 0⟩)
abbrev s_init_WaitTaken : Stmt := (clsB (topS 15)).getD 0 (.Pass ⟨0, 0, 0, 0⟩)
abbrev s_init_InvalidQueue : Stmt := (clsB (topS 16)).getD 0 (.Pass ⟨0, 0, 0, 0⟩)
abbrev s_init_Ended : Stmt := (clsB (topS 17)).getD 0 (.Pass ⟨0, 0, 0, 0⟩)
abbrev s_init_Blocked : Stmt := (clsB (topS 18)).getD 0 (.Pass ⟨0, 0, 0, 0⟩)
abbrev s_init_FlagUp : Stmt := (clsB (topS 19)).getD 0 (.Pass ⟨0, 0, 0, 0⟩)
abbrev s_init_NotReady : Stmt := (clsB (topS 20)).getD 0 (.Pass ⟨0, 0, 0, 0⟩)
abbrev s_init_Finished : Stmt := (clsB (topS 21)).getD 0 (.Pass ⟨0, 0, 0, 0⟩)
abbrev s_init_Full : Stmt := (clsB (topS 22)).getD 0 (.Pass ⟨0, 0, 0, 0⟩)
abbrev s_init_InvalidMark : Stmt := (clsB (topS 23)).getD 0 (.Pass ⟨0, 0, 0, 0⟩)
def factsA : List He.Fa := [.glo "is_int", .glo "is_pair", .glo "is_below", .glo "are_sizes", .glo "has_job", .glo "can_wait", .glo "are_waits", .glo "is_plan", .glo "check_plan", .glo "jobs_of", .glo "jobs", .glo "is_job", .glo "_law_spread", .glo "_law_open", .glo "_law_anew", .glo "_law_take", .glo "_law_one", .glo "_law_jobs", .glo "_law_sizes", .glo "_law_plan", .glo "_law_any_plan", .glo "_law_kept", .glo "_law_refusal", .glo "_law_bad_plan", .glo "_law_told", .glo "law", .glo "InvalidPlan", .glo "Unsound", .glo "InvalidMoment", .glo "InvalidFlags", .glo "InvalidChoices", .glo "InvalidNumber", .glo "SameQueue", .glo "RingMade", .glo "TooMany", .glo "NothingFinished", .glo "NotACertificate", .glo "UnknownJob", .glo "UnknownWait", .glo "WaitTaken", .glo "InvalidQueue", .glo "Ended", .glo "Blocked", .glo "FlagUp", .glo "NotReady", .glo "Finished", .glo "Full", .glo "InvalidMark", .glo "PlanError", .free "isinstance", .free "int", .free "bool", .free "str", .free "tuple", .free "list", .free "len", .free "range", .free "enumerate", .free "zip", .free "all", .free "any", .free "sorted", .free "set", .free "min", .free "max", .free "sum", .free "repr", .free "ValueError", .exc "InvalidPlan", .int "MOST_QUEUES" 4, .int "MOST_PLACES" 6, .int "MOST_WAITS" 24]
def factsD : List He.DefD := [dfn "is_int" s_is_int, dfn "is_pair" s_is_pair, dfn "is_below" s_is_below, dfn "are_sizes" s_are_sizes, dfn "has_job" s_has_job, dfn "can_wait" s_can_wait, dfn "are_waits" s_are_waits, dfn "is_plan" s_is_plan, dfn "check_plan" s_check_plan, dfn "jobs_of" s_jobs_of, dfn "jobs" s_jobs, dfn "is_job" s_is_job, dfn "_law_spread" s__law_spread, dfn "_law_open" s__law_open, dfn "_law_anew" s__law_anew, dfn "_law_take" s__law_take, dfn "_law_one" s__law_one, dfn "_law_jobs" s__law_jobs, dfn "_law_sizes" s__law_sizes, dfn "_law_plan" s__law_plan, dfn "_law_any_plan" s__law_any_plan, dfn "_law_kept" s__law_kept, dfn "_law_refusal" s__law_refusal, dfn "_law_bad_plan" s__law_bad_plan, dfn "_law_told" s__law_told, dfn "law" s_law]
def TN : List Str := ["are_sizes", "are_waits"]
abbrev R : PySem.W.OpenRow := PySem.W.OpenLaw.row PySem.Challenge.rw_flagplans_k02_jobs
abbrev hk : PySem.W.Hook := hookW 5 factsA factsD xfK TN
def ob (s : PySem.W.SharedT) : AlW := obW 5 factsA factsD xfK TN s
def looseN : List PySem.Str := (["PlanError", "InvalidPlan", "Unsound", "InvalidMoment", "InvalidFlags", "InvalidChoices", "InvalidNumber", "SameQueue", "RingMade", "TooMany", "NothingFinished", "NotACertificate", "UnknownJob", "UnknownWait", "WaitTaken", "InvalidQueue"] : List PySem.Str) ++ (["Ended", "Blocked", "FlagUp", "NotReady", "Finished", "Full", "InvalidMark", "MOST_QUEUES", "MOST_PLACES", "MOST_WAITS", "is_int", "is_pair", "is_below", "are_sizes", "has_job", "can_wait"] : List PySem.Str) ++ (["are_waits", "is_plan", "check_plan", "jobs_of", "jobs", "is_job", "_law_spread", "_law_open", "_law_anew", "_law_take", "_law_one", "_law_jobs", "_law_sizes", "_law_plan", "_law_any_plan", "_law_ahead"] : List PySem.Str) ++ (["_law_refusal", "_law_kept", "_law_bad_plan", "_law_told"] : List PySem.Str)
theorem run (w : World) : HandSHeadRun.RunEq R (PySem.W.view R.prog [55]) hk ob 12000 looseN w := by
  intro os
  kernel_rfl
end K02

set_option Elab.async false
set_option linter.all false
set_option maxRecDepth 100000
set_option maxHeartbeats 4000000
namespace VD
open PySem L2

/-! ### sorted(a list of data) -/
def keyD (x : D) : PyData := (toP x).getD .none
def leD (x y : D) : Bool := !PySem.W.dataLt (keyD y) (keyD x)
def tupB : PyData → Bool
  | .tuple (_ :: _) => true
  | _ => false
def othB : PyData → Bool
  | .none => false
  | .tuple _ => false
  | _ => true
def sortB (ps : List PyData) : Bool := (ps.all fun d => ps.all fun d' => PySem.W.alike d d') && ((ps.all tupB || ps.all othB) && ps.all fun d => decide (d.depth ≤ 60))
theorem sortB_ok {ps : List PyData} (h : sortB ps = true) : PySem.W.AllAlike ps ∧ PySem.W.Sortable ps ∧ ∀ d ∈ ps, d.depth ≤ 60 := by
  unfold sortB at h
  simp only [Bool.and_eq_true, Bool.or_eq_true, List.all_eq_true, decide_eq_true_eq] at h
  obtain ⟨h1, h2, h3⟩ := h
  refine ⟨fun d hd d' hd' => h1 d hd d' hd', ?_, h3⟩
  rcases h2 with h2 | h2
  · refine .inl fun d hd => ?_
    have z := h2 d hd
    unfold tupB at z
    split at z
    · exact ⟨_, _, rfl⟩
    · cases z
  · refine .inr fun d hd => ?_
    have z := h2 d hd
    unfold othB at z
    split at z
    · cases z
    · cases z
    · rename_i n1 n2
      exact ⟨n1, n2⟩
def fSorted : D → Option D
  | .lst l => match toPs l with
    | some ps => if sortB ps = true ∧ l.length ≤ 100000 then some (.lst (l.mergeSort leD)) else none
    | none => none
  | _ => none
theorem fSorted_some {x z : D} (h : fSorted x = some z) : ∃ l ps, x = .lst l ∧ toPs l = some ps ∧ sortB ps = true ∧ l.length ≤ 100000 ∧ z = .lst (l.mergeSort leD) := by
  unfold fSorted at h
  split at h
  · rename_i l
    split at h
    · rename_i ps e
      split at h
      · rename_i c
        cases h
        exact ⟨l, ps, rfl, e, c.1, c.2, rfl⟩
      · cases h
    · cases h
  · cases h
theorem toPs_map : ∀ {l : List D} {ps : List PyData}, toPs l = some ps → ps = l.map keyD ∧ ∀ x ∈ l, toP x = some (keyD x)
  | [], ps, h => by
    cases h
    exact ⟨rfl, fun _ z => nomatch z⟩
  | x :: l, ps, h => by
    unfold toPs at h
    split at h
    · rename_i p qs e1 e2
      cases h
      obtain ⟨a, b⟩ := toPs_map e2
      have ek : keyD x = p := by
        unfold keyD
        rw [e1]
        rfl
      refine ⟨by rw [List.map_cons, ek, a], fun y hy => ?_⟩
      rcases List.mem_cons.mp hy with rfl | hy
      · rw [e1, ek]
      · exact b y hy
    · cases h
def rSortX (pn : Pw) (K : PySem.W.Frag) : List V → Hp → VK → Prop := fun xs H Q => ∃ (a : Addr) (vs : List V) (l : List D), xs = [.ref a] ∧ SqL K H a vs ∧ Reps pn K H vs l ∧ toPs l = some (l.map keyD) ∧ (∀ x ∈ l, toP x = some (keyD x)) ∧ sortB (l.map keyD) = true ∧ l.length ≤ 100000 ∧
  ∀ p ws, H p = none → Reps pn K H ws (l.mergeSort leD) → Q (.ref p) (upd H p (.lst ws))
theorem each_of {pn : Pw} {K : PySem.W.Frag} {H : Hp} : ∀ {vs : List V} {l : List D} {us : List Value}, Reps pn K H vs l → Vals vs us → PySem.W.EachIs (fun u (b : V × D) => RelV b.1 u ∧ Rep pn K H b.1 b.2) us (vs.zip l)
  | _, _, _, .nil, .nil => .nil
  | _, _, _, .cons r t, .cons q s => .cons ⟨q, r⟩ (each_of t s)
theorem of_each {pn : Pw} {K : PySem.W.Frag} {H : Hp} : ∀ {bs : List (V × D)} {us : List Value}, PySem.W.EachIs (fun u (b : V × D) => RelV b.1 u ∧ Rep pn K H b.1 b.2) us bs → Vals (bs.map (·.1)) us ∧ Reps pn K H (bs.map (·.1)) (bs.map (·.2))
  | _, _, .nil => ⟨.nil, .nil⟩
  | _, _, .cons ⟨a, b⟩ t => let ⟨c, d⟩ := of_each t; ⟨.cons a c, .cons b d⟩
theorem call_sortX {X : Cx} {pn : Pw} {kr : Nat} (hr : Room kr X.A) : CallR X (.builtin "sorted") (rSortX pn X.K) := by
  intro pins s σ H xs us Q I r ⟨a, vs, l, ex, hs, rp, ep, et, hb, hl, q⟩
  subst ex
  obtain ⟨its, rv, hi, hz⟩ := I.list hs
  obtain ⟨u, rfl, ru⟩ := vals1 r
  obtain rfl : u = Value.ref a := ru
  obtain ⟨al, so, dp⟩ := sortB_ok hb
  have e := each_of rp rv
  have hlen : vs.length = l.length := rp.length
  have em : (vs.zip l).map (fun b => keyD b.2) = l.map keyD := by
    rw [show (fun b : V × D => keyD b.2) = keyD ∘ Prod.snd from rfl, ← List.map_map, List.map_snd_zip (by omega)]
  have memd : ∀ b ∈ vs.zip l, b.2 ∈ l := fun b hb => (List.of_mem_zip hb).2
  have er : PySem.W.EachIs (fun v (b : V × D) => ∃ as, Reads s.heap v (keyD b.2) as) its (vs.zip l) := (PySem.W.each_mem e).mono fun v b ⟨⟨h1, h2⟩, hm⟩ => Dp.reads I (keyD b.2) b.1 v (h2.dp (et _ (memd b hm))) h1
  refine PySem.W.sorted_data (enc := fun b : V × D => keyD b.2) hi.isList e er (by rw [em]; exact al) (by rw [em]; exact so) ?_ ?_ ?_
  · rw [List.length_zip, sizeLine_eq]
    omega
  · intro b hb
    have z := dp (keyD b.2) (List.mem_map.mpr ⟨_, memd b hb, rfl⟩)
    have := hr.un
    omega
  · intro out ho eo
    obtain ⟨c1, c2⟩ := of_each eo
    have es : ((vs.zip l).mergeSort (PySem.W.dataLe false fun b : V × D => keyD b.2)).map (·.2) = l.mergeSort leD := by
      exact (List.map_mergeSort (f := fun b : V × D => b.2) (s := leD) (fun a _ b _ => rfl)).trans (congrArg (fun z => List.mergeSort z leD) (List.map_snd_zip (by omega)))
    rw [es] at c2
    obtain ⟨n, hn⟩ := PyProof.Rows.sortedAll_at s.heap its out.toArray
    generalize hws : ((vs.zip l).mergeSort (PySem.W.dataLe false fun b : V × D => keyD b.2)).map (·.1) = ws at c1 c2
    have hwl : ws.length ≤ sizeLine := by
      rw [← hws, List.length_map, List.length_mergeSort, List.length_zip, sizeLine_eq]
      omega
    exact ⟨.ref (s.heap.objs.size + 1), upd H (s.heap.objs.size + 1) (.lst ws), I.laid (t' := s.toks) (fun _ _ z => PyProof.Rows.sortedAll_old z) (Nat.le_succ _) ⟨hwl, out, n, c1, hn⟩, rfl, q _ _ (I.hok.fresh (Nat.le_succ _)) c2⟩
section
variable {X : Cx} {pn : Pw} {H0 : Hp} {k : Kd} {a : Expr} {ta : TD} {pos p : Pos} {kr : Nat}
theorem boot_sorted' : bootBuiltins "sorted" = some (.builtin "sorted") := by decide +kernel
theorem pd_sorted (hr : Room kr X.A) (hm : X.mg "sorted" = none) (hg : Gl X "sorted") (ha : PD X pn H0 k a ta) (he : starEach (a :: []) X.env = (false, eval a X.env) :: starEach [] X.env := by rfl) (hpl : (backTo pos (starEach [] X.env)).any (·.1) = false := by rfl) :
    PD X pn H0 .f (.Call (.Name "sorted" p) [a] [] pos) (d1 fSorted ta) :=
  pd_b1 (ka := k) (call_sortX (pn := pn) hr) (fun H n v x z hp h1 e Q q => by
    obtain ⟨l, ps, rfl, e1, e2, e3, rfl⟩ := fSorted_some e
    obtain ⟨em, et⟩ := toPs_map e1
    obtain ⟨a, vs, rfl, ht, rp⟩ := (RR.rx h1).trl
    refine ⟨a, vs, l, rfl, ht.sq, rp, by rw [e1, em], et, by rw [← em]; exact e2, e3, fun p ws hn rw' => ?_⟩
    obtain ⟨b1, b2, b3⟩ := lay_lst hp hn rw'
    exact q _ _ b1 b2 b3) hg hm boot_sorted' ha (by decide) (by decide) he hpl
end
/-! ### < of data -/
def rLtX (K : PySem.W.Frag) : R2 := fun x y H Q => ∃ d e, Dp K H x d ∧ Dp K H y e ∧ PySem.W.alike d e = true ∧ d ≠ .none ∧ d.depth ≤ 60 ∧ Q (.bl (PySem.W.dataLt d e)) H
theorem op_ltX {X : Cx} {kr : Nat} (hr : Room kr X.A) : OpR X (compareOp .Lt) (rLtX X.K) := by
  intro pins s σ H x y v u Q I rx ry ⟨d, e, hd, he, al, hn, dp, q⟩
  obtain ⟨as, r1⟩ := Dp.reads I d x v hd rx
  obtain ⟨bs, r2⟩ := Dp.reads I e y u he ry
  exact PySem.W.rcLt_alike d e X.A s v u as bs r1 r2 al hn (by have := hr.un; omega) _ _ _ _ ⟨.bl _, H, I, rfl, q⟩
def nnB : PyData → Bool
  | .none => false
  | _ => true
def fLtX (x y : D) : Option D := match toP x, toP y with
  | some p, some q => if (PySem.W.alike p q && nnB p && decide (p.depth ≤ 60)) = true then some (.bl (PySem.W.dataLt p q)) else none
  | _, _ => none
theorem fLtX_some {x y z : D} (h : fLtX x y = some z) : ∃ p q, toP x = some p ∧ toP y = some q ∧ PySem.W.alike p q = true ∧ p ≠ .none ∧ p.depth ≤ 60 ∧ z = .bl (PySem.W.dataLt p q) := by
  unfold fLtX at h
  split at h
  · rename_i p q e1 e2
    split at h
    · rename_i c
      cases h
      simp only [Bool.and_eq_true, decide_eq_true_eq] at c
      refine ⟨p, q, e1, e2, c.1.1, fun z => ?_, c.2, rfl⟩
      subst z
      exact absurd c.1.2 Bool.false_ne_true
    · cases h
  · cases h
theorem oc_ltX {X : Cx} {pn : Pw} {kr : Nat} (hr : Room kr X.A) : OpP X pn .Lt fLtX := ⟨_, op_ltX hr, fun _ _ H n v w x y z hp h1 h2 e Q q => by
  obtain ⟨p, p', e1, e2, s1, s2, s3, rfl⟩ := fLtX_some e
  exact ⟨p, p', h1.rx.dp e1, h2.rx.dp e2, s1, s2, s3, q _ H (Xt.refl _ _) hp (.bl _)⟩⟩
end VD

set_option Elab.async false
set_option linter.all false
set_option maxRecDepth 100000
set_option maxHeartbeats 4000000
namespace VD
open PySem L2

/-! ### try: body, except B as n: m = n -/
theorem Inv.track {X : Cx} {pins : List (Addr × Obj)} {σ : L2.St} {H : Hp} {s : Shared} {a : Addr} {oe : Obj} (I : Inv X ((a, oe) :: pins) σ H s) (h0 : X.s_0.heap.get? a = none) (hp : ∀ p ∈ X.pn ++ pins, p.1 ≠ a) :
    Inv X pins σ (upd H a (.ext fun h => h.get? a = some oe)) s := by
  obtain ⟨ha, hn, nL, nF, nc⟩ := I.pin (a, oe) (List.mem_append_right _ List.mem_cons_self)
  have ne : ∀ b o, H b = some o → b ≠ a := fun b o e z => by
    rw [z, hn] at e
    cases e
  refine ⟨I.ok, I.os, I.bare, ⟨I.base.keep, I.base.slot, fun b o e n x => ?_, I.base.there, fun b xs e => ?_, fun b o u e => ?_, fun b ps e => ?_⟩, I.loc, I.cell, ?_, fun x c hc => ?_, fun p hp' => ?_, fun b u e => ?_, I.len⟩
  · have nb : b ≠ a := fun z => by
      rw [z, h0] at e
      cases e
    rw [upd_ne nb]
    exact I.base.free b o e n x
  · have z := I.base.tups b xs e
    rw [upd_ne (ne _ _ z)]
    exact z
  · have z := I.base.frzs b o u e
    rw [upd_ne (ne _ _ z)]
    exact z
  · obtain ⟨m, z⟩ := I.base.tbls b ps e
    exact ⟨m, by rw [upd_ne (ne _ _ z)]; exact z⟩
  · rw [upd_ne (Ne.symm nL)]
    exact I.free
  · have nb : c ≠ a := fun z => by
      obtain ⟨v, o, q1, q2⟩ := I.cell x c hc
      rw [z, ha] at q1
      cases q1
      exact nc _ q2
    rw [upd_ne nb]
    exact I.freeC x c hc
  · obtain ⟨q1, q2, q3⟩ := I.pin p (by
      rcases List.mem_append.mp hp' with q | q
      · exact List.mem_append_left _ q
      · exact List.mem_append_right _ (List.mem_cons_of_mem _ q))
    exact ⟨q1, by rw [upd_ne (hp p hp')]; exact q2, q3⟩
  · by_cases c : b = a
    · subst c
      rw [upd_same] at e
      cases e
      exact ⟨ha, ⟨oe, ha⟩, fun h1 h2 q k => k _ q⟩
    · rw [upd_ne c] at e
      refine (I.hok b u e).stay (fun d w _ z => z) (fun d z => ?_) fun d xs z => ?_
      · rw [upd_ne (ne _ _ z)]
        exact z
      · rw [upd_ne (ne _ _ z)]
        exact z
/-- f(..) over data, where what is wanted of an exception may speak of the slots -/
def dCallE (ar : Nat) (tf : TF) (EE : En → EK) (t : TAD) : TD := fun e n Q => t e n fun l m => l.length = ar ∧ tf l m Q (EE e)
def TakE (X : Cx) (pn : Pw) (H0 : Hp) (CX : CXT) (EE : En → EK) : Prop := ∀ (pins : List (Addr × Obj)) (σ : L2.St) (H : Hp) (e : En) (n : Nat) (s : Shared) (u : Value) (s' : Shared), Inv X pins σ H s → Good pn X.K H0 e n σ H →
  CX X.stack H s (fun cls d H' => ∃ C fl k n', cls = .ref C ∧ Xt pn H H' ∧ PenOk pn X.K H' n' ∧ ExR pn X.K H' d fl k ∧ EE e C fl k n') u s' → X.xe u s'
theorem takE0 {X : Cx} {pn : Pw} {H0 : Hp} {EE : En → EK} : TakE X pn H0 CX0 EE := fun _ _ _ _ _ _ _ _ _ _ h => h.elim
section
variable {X : Cx} {pn : Pw} {H0 : Hp} {CX : CXT} {k : Nat} {f : Addr} {fd : FuncData} {ps : List Str} {x : Str} {p pos : Pos} {e : Expr} {es : List Expr}
theorem pd_callE {ar : Nat} {rk : Kd} {tf : TF} {t : TAD} {EE : En → EK} (F : FnG X.prog X.w X.K X.mg X.base CX k f fd ps (spD ar pn X.K rk tf)) (hr : Room k X.A) (hG : X.A.guards = some []) (hg : Gl X x) (hm : X.mg x = some (.ref f)) (hk : PySem.W.keepIn X.K (.ref f) = true) (hb : Binds X.K fd ps [])
    (hx : TakE X pn H0 CX EE) (ha : PDA X pn H0 (e :: es) t) (hdb : (x == ("__debug__" : Str)) = false := by decide) (he : starEach (e :: es) X.env = (false, eval e X.env) :: starEach es X.env := by rfl)
    (hpl : (backTo pos (starEach es X.env)).any (·.1) = false := by rfl) : PD X pn H0 rk (.Call (.Name x p) (e :: es) [] pos) (dCallE ar tf EE t) := by
  refine ⟨fun pins s σ H Q I ⟨en, n, Qd, g, ht, q⟩ => ?_⟩
  refine wpAny_Call_Name_kw (ld_glob I hg hm ?_ hdb)
  refine PySem.W.callWith_K (h₀ := X.base) I.ok.mod.kin hk (thn (ha.run pos pins s σ H (fun vs H1 => ∃ l n1, Good pn X.K H0 en n1 σ H1 ∧ Xt pn H H1 ∧ Reps pn X.K H1 vs l ∧ l.length = ar ∧ tf l n1 Qd (EE en)) I
    ⟨en, n, _, g, ht, fun vs H' l n' g' x' r' h' => ⟨l, n', g', x', r', h'.1, h'.2⟩⟩) fun us s1 ⟨vs, H1, I1, r, l, n1, g1, x1, rl, hll, q1⟩ => ⟨I1.kIn, ?_⟩) he hpl
  refine run_fnG (E := fun cls d H' => ∃ C fl k n', cls = .ref C ∧ Xt pn H1 H' ∧ PenOk pn X.K H' n' ∧ ExR pn X.K H' d fl k ∧ EE en C fl k n') F hr hG hb (fun u s' c => hx pins σ H1 en n1 s1 u s' I1 g1 c) I1 r
    ⟨l, n1, Qd, EE en, rl, g1.pen, hll, q1, fun v H' y n' x' p' r' q' => ?_, fun C fl k n' d H' x' p' r' q' => ⟨C, fl, k, n', rfl, x', p', r', q'⟩⟩
  exact q v H' y n' (g1.xt x' p') (x1.trans x') (r'.back x1 g1.pen) q'
theorem pd_callHE {ar : Nat} {rk : Kd} {tf : TF} {t : TAD} {EE : En → EK} {j : Nat} (h : Has X.prog X.w X.K X.mg X.base CX k x ps (spD ar pn X.K rk tf)) (hr : Room j X.A) (hk : k ≤ j) (hG : X.A.guards = some []) (hg : Gl X x) (hx : TakE X pn H0 CX EE) (ha : PDA X pn H0 (e :: es) t)
    (hdb : (x == ("__debug__" : Str)) = false := by decide) (he : starEach (e :: es) X.env = (false, eval e X.env) :: starEach es X.env := by rfl) (hpl : (backTo pos (starEach es X.env)).any (·.1) = false := by rfl) : PD X pn H0 rk (.Call (.Name x p) (e :: es) [] pos) (dCallE ar tf EE t) :=
  let ⟨_, _, F, hm, kp, hb⟩ := h
  pd_callE F (hr.mono hk) hG hg hm kp hb hx ha hdb he hpl
end
theorem Good.rebase {pn : Pw} {K : PySem.W.Frag} {H0 H H' : Hp} {e : En} {n m : Nat} {σ : L2.St} (g : Good pn K H e n σ H') (x : Xt pn H0 H) (p : PenOk pn K H m) : Good pn K H0 e n σ H' :=
  ⟨g.len, g.dat, fun i l h => let ⟨a, vs, h1, h2, h3, h4, h5⟩ := g.own i l h; ⟨a, vs, h1, h2, h3, fresh_back x p h4, h5⟩, g.ne, x.trans g.stay, g.pen⟩
theorem Good.unset' {pn : Pw} {K : PySem.W.Frag} {H0 H : Hp} {e : En} {n : Nat} {σ : L2.St} (g : Good pn K H0 e n σ H) (i : Nat) : Good pn K H0 (e.set i none) n (σ.set i none) H := g.unset i
/-- what is wanted at the catch -/
def catchE (K : PySem.W.Frag) (c : Value) (i j : Nat) (F : DE) : En → EK := fun e C fl k n => PySem.W.exmOne K (.ref C) c = some true ∧ F.nx ((e.set j (some (.d (.exc C fl k)))).set i none) n
def dTry (K : PySem.W.Frag) (c : Value) (i j : Nat) (tb : (En → EK) → TSD) : TSD := fun F e n => (∀ (i : Nat) (l : List D), e[i]? ≠ some (some (S.own l))) ∧ tb (catchE K c i j F) F e n
section
variable {X : Cx} {pn : Pw} {H0 : Hp} {rk : Kd} {x n m : Str} {c : Value} {i j : Nat} {body : List Stmt} {np pos pos' p1 p2 p3 : Pos} {tb : (En → EK) → TSD}
theorem psd_try (hs : X.stack = X.env :: X.outer) (hf : X.env.frame = some X.env.locals) (hex : X.ex = []) (hN : X.N.Nodup) (hi : X.N[i]? = some n) (hln : X.env.kindOf n = some .local) (hj : X.N[j]? = some m) (hlm : X.env.kindOf m = some .local) (hij : i ≠ j) (hc : Names X x c)
    (hb : ∀ (pn' : List (Addr × Obj)) (xe : Value → Shared → Prop) (EE : En → EK) (H : Hp), TakE (X.tr pn' xe) pn H (L2.CX X.prog X.w) EE → PassesOwn (model X.prog X.w) X.A X.env xe → PSDs (X.tr pn' xe) pn H rk body (tb EE))
    (hsu : ∀ (a : Addr) (pn' : List (Addr × Obj)), PSs (X.suite a pn') [.Assign [.Name m p1] (.Name n p2) p3] (tAsg (tVar i) (gName j))) :
    PSD X pn H0 rk (.Try body [.ExceptHandler (some (.Name x np)) (some n) [.Assign [.Name m p1] (.Name n p2) p3] pos'] [] [] pos) (dTry X.K c i j tb) := by
  refine ⟨fun pins s σ H D I ⟨e0, n0, F, g0, ⟨noOwn, ht⟩, ld⟩ => ?_⟩
  have ok := I.ok
  have hfr : X.A.frames = some (X.env :: X.outer) := by rw [ok.frames, hs]
  have hloc : Loc X.env.scope n := .inl hln
  have gH : Good pn X.K H e0 n0 σ H := ⟨g0.len, g0.dat, fun i l h => absurd h (noOwn i l), g0.ne, Xt.refl _ _, g0.pen⟩
  have ldH : Leads pn X.K rk H H F D := ⟨fun σ' H' e' n' a b q => ld.nx σ' H' e' n' (a.rebase g0.stay g0.pen) b q, fun v σ' H' y n' e' a r q => ld.rt v σ' H' y n' e' (a.rebase g0.stay g0.pen) (r.back g0.stay g0.pen) q,
    fun σ' H' e' n' a b q => ld.bk σ' H' e' n' (a.rebase g0.stay g0.pen) b q, fun σ' H' e' n' a b q => ld.ct σ' H' e' n' (a.rebase g0.stay g0.pen) b q⟩
  refine wpAny_Try_except ?_
  refine wpAny_mono ((hb (X.pn ++ pins) (fun e s₁ => wpAny (model X.prog X.w) X.A (noteFrame e X.env) (fun _ s₂ => wpAny (model X.prog X.w) X.A (setFlight e none) (fun _ s₃ =>
    wpAny (model X.prog X.w) X.A (handleBy e X.env [.ExceptHandler (some (.Name x np)) (some n) [.Assign [.Name m p1] (.Name n p2) p3] pos']) (SP X pins D) X.xe s₃) X.xe s₂) X.xe s₁) (catchE X.K c i j F) H (fun pins2 σ2 H2 e2 n2 s2 u s' I2 g2 cx => ?_) PassesOwn.looking).run [] s σ H D (I.toTry _) ⟨e0, n0, F, gH, ht, ldH⟩) (fun f s1 hsp => ?_) (fun e s1 he => he)
  · -- the catch
    obtain ⟨a, B, sI, pins', σ', H', cls, d, rfl, J', nb, up, sky, na, os, ag, C, fl, k, n', rfl, hX, hP, hR, ⟨hm, hnx⟩, gC⟩ := XE.of_call (W := fun cls d σ H' => ∃ C fl k n', cls = .ref C ∧ Xt pn H2 H' ∧ PenOk pn X.K H' n' ∧ ExR pn X.K H' d fl k ∧ catchE X.K c i j F e2 C fl k n' ∧ Good pn X.K H e2 n' σ H') I2 (fun cls d H' ⟨C, fl, k, n', h1, h2, h3, h4, h5⟩ => ⟨C, fl, k, n', h1, h2, h3, h4, h5, g2.xt h2 h3⟩) cx
    have J : Inv X pins σ' H' sI := J'.ofTry ok
    have sky' : Sky B (X.env :: X.outer) a (Zc (.ref C) d) X.env.locals s'.heap := by rw [← hs]; exact sky
    show wpAny (model X.prog X.w) X.A (noteFrame (.ref a) X.env) _ _ _
    refine Sky.land Zc.steady hfr hf sky' fun h3 fl3 up3 => ?_
    have J3 : Inv X pins σ' H' { s' with heap := h3 } := J.landed nb fl3.1 (up.trans up3) os ag
    obtain ⟨oe3, vs3, he3, hz3, hd3⟩ := fl3.there
    have notFr : ∀ {h : Heap} {o : Obj} {vs : Array Value}, h.FunFrames B (X.env :: X.outer) → h.get? a = some o → o.data = .fields vs → a ∉ frs (X.env :: X.outer) := fun {h o vs} ff e dd hm => by
      obtain ⟨_, o', e', hnf⟩ := ff.mem hm
      rw [e] at e'
      cases e'
      exact hnf _ dd
    have nfr := notFr fl3.2.2.1 he3 hd3
    have nL : a ≠ X.env.locals := fun z => nfr (List.mem_filterMap.mpr ⟨X.env, List.mem_cons_self, by rw [hf, z]⟩)
    have nF : a ∉ X.fs := fun hm => by
      obtain ⟨e, he, q⟩ := List.mem_filterMap.mp hm
      exact nfr (List.mem_filterMap.mpr ⟨e, List.mem_cons_of_mem _ he, q⟩)
    have sInone : sI.heap.get? a = none := by
      cases q : sI.heap.get? a with
      | none => rfl
      | some o =>
        have z := nb a o q (by rw [show (X.tr (X.pn ++ pins) _).stack = X.stack from rfl, hs]; exact nfr)
        rw [fl3.2.1] at z
        cases z
    have s0none : X.s_0.heap.get? a = none := by
      cases q : X.s_0.heap.get? a with
      | none => rfl
      | some o =>
        obtain ⟨o', z⟩ := J.base.there a o q (by rw [hex]; exact List.not_mem_nil)
        rw [sInone] at z
        cases z
    have pinNe : ∀ p ∈ X.pn ++ pins, p.1 ≠ a := fun p hp z => by
      obtain ⟨q1, _⟩ := J.pin p hp
      rw [z, sInone] at q1
      cases q1
    have S3 := J3.suite he3 hd3 na nL nF
    refine wpAny_handleBy_cons (codeAny_handlers_test ?_) (by intro q; cases q)
    have LT : PySem.W.Looks (model X.prog X.w) h3 (typeOf (.ref a)) (.ref C) := fun A Q E s k q => wpAny_typeOf_ref (k _ _ he3) (by rw [hz3.1]; exact q)
    have LM := PySem.W.exm_one (M := model X.prog X.w) (J3.kIn) LT hm
    have test : ∀ {Q : Value → Shared → Prop} {E : Value → Shared → Prop}, Q c { s' with heap := h3 } → wpAny (model X.prog X.w) (X.A.mark (some (.ref a))) (eval (.Name x np) X.env) Q E { s' with heap := h3 } := fun {Q E} q => by
      obtain ⟨hg, hdbg, hm | ⟨hm, hv, hnn⟩⟩ := hc
      · exact ld_glob (X := X.suite a ((a, oe3) :: (X.pn ++ pins))) S3 hg hm q hdbg
      · exact ld_blt (X := X.suite a ((a, oe3) :: (X.pn ++ pins))) S3 hg hm hv q hnn hdbg
    refine test (LM.here ?_)
    refine codeAny_handlers_suite_as ?_
    refine HandSPX.lands_againZ fl3 fun h4 fl4 up4 => ?_
    have J4 : Inv X pins σ' H' { s' with heap := h4 } := J.landed nb fl4.1 ((up.trans up3).trans up4) os ag
    obtain ⟨oe4, vs4, he4, hz4, hd4⟩ := fl4.there
    have S4 := J4.suite he4 hd4 na nL nF
    have gr : Gr H H' := gC.stay.gr g0.pen
    refine store_ok (X := X.suite a ((a, oe4) :: (X.pn ++ pins))) (v := .ref a) S4 hN hi hloc rfl (fun s5 S5 => ?_) (.inr hln)
    have il : i < σ'.length := by
      rw [J.len]
      exact (List.getElem?_eq_some_iff.mp hi).1
    refine wpAny_mono ((hsu a ((a, oe4) :: (X.pn ++ pins))).run [] s5 _ H' ⟨fun σ6 H6 => σ6 = (σ'.set i (some (.ref a))).set j (some (.ref a)) ∧ H6 = H', fun _ _ => False, fun _ _ => False, fun _ _ => False⟩ S5 ⟨.ref a, List.getElem?_set_self il, rfl, rfl⟩) (fun f s6 hsp => ?_) (fun _ _ z => False.elim z)
    cases f with
    | brk =>
      obtain ⟨_, _, _, z⟩ := hsp
      exact z.elim
    | cont =>
      obtain ⟨_, _, _, z⟩ := hsp
      exact z.elim
    | ret u =>
      obtain ⟨_, _, _, _, _, z⟩ := hsp
      exact z.elim
    | next =>
      obtain ⟨σ6, H6, S6, e1, e2⟩ := hsp
      subst e1
      rw [e2] at S6
      have I6 : L2.Inv X ((a, oe4) :: pins) ((σ'.set i (some (.ref a))).set j (some (.ref a))) H' s6 := ⟨ok, S6.os, S6.bare, S6.base, S6.loc, S6.cell, S6.free, S6.freeC, fun p hp => S6.pin p (by
        refine List.mem_append_left _ ?_
        rcases List.mem_append.mp hp with q | q
        · exact List.mem_cons_of_mem _ (List.mem_append_left _ q)
        · rcases List.mem_cons.mp q with q | q
          · rw [q]
            exact List.mem_cons_self
          · exact List.mem_cons_of_mem _ (List.mem_append_right _ q)), S6.hok, S6.len⟩
      refine gone_ok I6 hN hi hln fun s7 I7 => ?_
      have I8 := VD.Inv.track I7 s0none pinNe
      have gu : Gr H' (upd H' a (.ext fun h => h.get? a = some oe4)) := Gr.new na
      have rep : Rep pn X.K (upd H' a (.ext fun h => h.get? a = some oe4)) (.ref a) (.exc C fl k) := by
        have ex : ExAt (upd H' a (.ext fun h => h.get? a = some oe4)) a C d := ⟨_, upd_same, fun h q => ⟨oe4, vs4, q, hz4, hd4⟩⟩
        rcases hR with ⟨rfl, rfl, rfl⟩ | ⟨dd, v, y, rfl, rfl, hd, ry⟩
        · exact .exc0 ex
        · refine .exc1 ex (.inl ?_) (ry.gr gu)
          rw [upd_ne (fun z => by rw [z, na] at hd; cases hd)]
          exact hd
      have g2 := ((gC.new (p := a) (o := .ext fun h => h.get? a = some oe4) na).set (i := j) rep).unset i
      have es : ((σ'.set i (some (V.ref a))).set j (some (V.ref a))).set i none = (σ'.set j (some (V.ref a))).set i none := by
        rw [List.set_comm _ _ (Ne.symm hij), List.set_set, List.set_comm _ _ hij]
      refine ⟨_, _, I8, ?_⟩
      rw [es]
      exact ld.nx _ _ _ _ (g2.rebase g0.stay g0.pen) (gr.trans gu) hnx
  · cases f with
    | next =>
      obtain ⟨σ', H', J', q⟩ := hsp
      exact wpAny_execs_nil ⟨σ', H', J'.ofTry ok, q⟩
    | brk =>
      obtain ⟨σ', H', J', q⟩ := hsp
      exact ⟨σ', H', J'.ofTry ok, q⟩
    | cont =>
      obtain ⟨σ', H', J', q⟩ := hsp
      exact ⟨σ', H', J'.ofTry ok, q⟩
    | ret u =>
      obtain ⟨v, σ', H', J', r, q⟩ := hsp
      exact ⟨v, σ', H', J'.ofTry ok, r, q⟩
end
end VD

set_option Elab.async false
set_option linter.all false
set_option maxRecDepth 100000
set_option maxHeartbeats 4000000
namespace VD
open PySem L2

/-! ### what a comprehension walks: an own list too -/
structure ItX (pn : Pw) (K : PySem.W.Frag) (J : It) (l : List D) (H1 : Hp) : Prop where
  go : ∀ H i, Xt pn H1 H → i < l.length → J.go i H
  yl : ∀ H i x H', Xt pn H1 H → i < l.length → J.yld i H x H' → ∃ y, l[i]? = some y ∧ Rep pn K H' x y ∧ (H' = H ∨ ∃ p o, H p = none ∧ H' = upd H p o)
  st : ∀ H, Xt pn H1 H → J.stop l.length H
theorem ItD.x {pn : Pw} {K : PySem.W.Frag} {J : It} {l : List D} {H1 : Hp} {n : Nat} (it : ItD pn K J l H1) (p : PenOk pn K H1 n) : ItX pn K J l H1 :=
  ⟨fun H i x h => it.go H i (x.gr p) h, fun H i v H' x h y => it.yl H i v H' (x.gr p) h y, fun H x => it.st H (x.gr p)⟩
def upIX (pn : Pw) (H0 : Hp) (K : PySem.W.Frag) (t : TID) : TI := fun σ H R => ∃ (e : En) (n : Nat) (Qd : List D → Nat → Prop), Good pn K H0 e n σ H ∧ t e n Qd ∧
  ∀ J H' l n', Good pn K H0 e n' σ H' → Xt pn H H' → ItX pn K J l H' → Qd l n' → R J H'
abbrev PIDX (X : Cx) (pn : Pw) (H0 : Hp) (tg iter : Expr) (t : TID) : Prop := PI X tg iter (upIX pn H0 X.K t)
section
variable {X : Cx} {pn : Pw} {H0 : Hp} {tg a b : Expr} {ta tb : TD} {ti : TID} {pos : Pos}
theorem pidx (h : PID X pn H0 tg a ti) : PIDX X pn H0 tg a ti := pi_wk h fun σ H R ⟨e, n, Qd, g, ht, q⟩ => ⟨e, n, Qd, g, ht, fun J H' l n' g' x it w => q J H' l n' g' x (it.x g'.pen) w⟩
/-- an own list -/
def iOwn (i : Nat) : TID := fun e n Q => opt (ownAt e i) fun l => Q l n
def iOwnE (i : Nat) : TID := fun e n Q => opt (ownAt e i) fun l => Q (enumD l) n
theorem sq_same {K : PySem.W.Frag} {H : Hp} {a : Addr} {vs : List V} (h : H a = some (.lst vs)) : SqL K H a vs := SqL.of h
theorem itx_list {K : PySem.W.Frag} {c : Addr} {vs : List V} {l : List D} {H : Hp} {n : Nat} (p : PenOk pn K H n) (h : H c = some (.lst vs)) (hp : ¬ Own pn c) (r : Reps pn K H vs l) : ItX pn K (Itl K c) l H where
  go := fun H' i x hi => by
    obtain ⟨y, hy⟩ : ∃ x, l[i]? = some x := ⟨_, List.getElem?_eq_getElem hi⟩
    obtain ⟨v, hv, _⟩ := r.get hy
    exact ⟨vs, v, SqL.of (x _ _ h hp), hv⟩
  yl := fun H' i v H2 x _ y => by
    obtain ⟨rfl, y⟩ := y
    obtain ⟨z, h1, h2⟩ := r.getV (y vs (SqL.of (x _ _ h hp)))
    exact ⟨z, h1, h2.gr (x.gr p), .inl rfl⟩
  st := fun H' x => ⟨vs, SqL.of (x _ _ h hp), by rw [r.length]; exact Nat.le_refl _⟩
theorem itx_enum {K : PySem.W.Frag} {c : Addr} {vs : List V} {l : List D} {H : Hp} {n : Nat} (p : PenOk pn K H n) (h : H c = some (.lst vs)) (hp : ¬ Own pn c) (r : Reps pn K H vs l) : ItX pn K (Ite K c) (enumD l) H where
  go := fun H' i x hi => by
    rw [enumD_len] at hi
    obtain ⟨y, hy⟩ : ∃ x, l[i]? = some x := ⟨_, List.getElem?_eq_getElem hi⟩
    obtain ⟨v, hv, _⟩ := r.get hy
    exact ⟨vs, v, SqL.of (x _ _ h hp), hv⟩
  yl := fun H' i w H2 x hi y => by
    obtain ⟨T, v, rfl, hT, rfl, y⟩ := y
    obtain ⟨z, h1, h2⟩ := r.getV (y vs (SqL.of (x _ _ h hp)))
    exact ⟨_, enumD_get h1, rep_pair hT (.int _) (h2.gr (x.gr p)), .inr ⟨_, _, hT, rfl⟩⟩
  st := fun H' x => ⟨vs, SqL.of (x _ _ h hp), by rw [r.length, enumD_len]; exact Nat.le_refl _⟩
theorem own_some {e : En} {i : Nat} {l : List D} (h : ownAt e i = some l) : e[i]? = some (some (.own l)) := by
  unfold ownAt at h
  split at h
  · rename_i m q
    cases h
    exact q
  · cases h
theorem pidx_own (i : Nat) {x : Str} {p : Pos} (hN : X.N[i]? = some x := by rfl) (hv : Vis X.env.scope x := by first | exact Or.inl rfl | exact Or.inr (Or.inl rfl) | exact Or.inr (Or.inr rfl)) (hd : (x == ("__debug__" : Str)) = false := by decide) (hcd : (x == ("__classdict__" : Str)) = false := by decide) :
    PIDX X pn H0 tg (.Name x p) (iOwn i) := pi_wk (pi_list (pe_var hN hv hd hcd)) fun σ H R ⟨e, n, Qd, g, ht, q⟩ => by
  obtain ⟨l, e1, h2⟩ := opt_some ht
  obtain ⟨a, vs, h1, h3, h4, h5, h6⟩ := g.own i l (own_some e1)
  exact ⟨.ref a, h1, _, rfl, ⟨_, SqL.of h3⟩, q _ H l n g (Xt.refl _ _) (itx_list g.pen h3 h6 h4) h2⟩
theorem pidx_ownE (i : Nat) {elts : List Expr} {kk : Nat} {tpos p p2 : Pos} {x : Str} (hg : Gl X "enumerate") (hm : X.mg "enumerate" = none) (hN : X.N[i]? = some x := by rfl) (hv : Vis X.env.scope x := by first | exact Or.inl rfl | exact Or.inr (Or.inl rfl) | exact Or.inr (Or.inr rfl)) (hd : (x == ("__debug__" : Str)) = false := by decide) (hcd : (x == ("__classdict__" : Str)) = false := by decide)
    (hs : starEach [.Name x p2] X.env = [(false, eval (.Name x p2) X.env)] := by rfl) : PIDX X pn H0 (.Tuple elts kk tpos) (.Call (.Name "enumerate" p) [.Name x p2] [] pos) (iOwnE i) :=
  pi_wk (pi_enum hg hm (pa_cons (pe_var hN hv hd hcd) pa_nil hs) hs) fun σ H R ⟨e, n, Qd, g, ht, q⟩ => by
    obtain ⟨l, e1, h2⟩ := opt_some ht
    obtain ⟨a, vs, h1, h3, h4, h5, h6⟩ := g.own i l (own_some e1)
    exact ⟨.ref a, h1, _, _, rfl, SqL.of h3, q _ H _ n g (Xt.refl _ _) (itx_enum g.pen h3 h6 h4) h2⟩
end
section
variable {X : Cx} {pn : Pw} {H0 : Hp} {elt tg iter : Expr} {ifs : List Expr} {scope : Scope} {own : List (Str × Nat)} {pos : Pos} {ti : TID} {g : GD} {c : TTD} {te : TD} {ws : List Nat}
theorem up_lcX {K : PySem.W.Frag} (hw : ∀ j ∈ ws, j ∈ own.map (·.2)) {σ : L2.St} {H : Hp} {Q : VK} (h : up pn H0 K .f (dLc ti (own.map (·.2)) g c te) σ H Q) :
    tLc (upIX pn H0 K ti) (upG pn H0 K ws g) (upT pn H0 K c) (up pn H0 K .m te) (own.map (·.2)) σ H Q := by
  obtain ⟨e, n, Qd, gd, ht, q⟩ := h
  refine ⟨e, n, _, gd, ht, fun J H1 l n1 g1 x1 it h1 D hD => ?_⟩
  obtain ⟨hlen, h1⟩ := h1
  have D0 : H0 D = none := good_back g1 hD
  have Dp : ¬ Own pn D := g1.pen.ne hD
  have Dun := un_fresh g1 hD
  have DH : H D = none := fresh_back x1 g1.pen hD
  refine ⟨fun i m H' => i + m = l.length ∧ Xt pn H1 H' ∧ Xt pn H H' ∧ ∃ n' acc vs, Good pn K H0 e n' σ H' ∧ H' D = some (.lst vs) ∧ Reps pn K H' vs acc ∧ acc.length ≤ i ∧ dLcL g c te (wipeE e (own.map (·.2))) (l.drop i) acc n' Qd,
    ⟨l.length, by omega, Xt.new hD, x1.trans (Xt.new hD), n1, [], [], g1.new hD, upd_same, .nil, Nat.le_refl _, h1⟩, ?_⟩
  rintro i m H' ⟨him, xt1, xt, n', acc, vs, g', hd, ra, hacc, h'⟩
  by_cases hlt : i < l.length
  · refine .inr ⟨it.go H' i xt1 hlt, fun H2 => Xt pn H1 H2 ∧ Xt pn H H2 ∧ ∃ n2 acc2 vs2, Good pn K H0 e n2 σ H2 ∧ H2 D = some (.lst vs2) ∧ Reps pn K H2 vs2 acc2 ∧ acc2.length ≤ i + 1 ∧ dLcL g c te (wipeE e (own.map (·.2))) (l.drop (i + 1)) acc2 n2 Qd,
      fun H2 ⟨a1, a2, n2, acc2, vs2, a3, a4, a5, a6, a7⟩ => ⟨m - 1, by omega, by omega, a1, a2, n2, acc2, vs2, a3, a4, a5, a6, a7⟩, fun x H2 y => ?_⟩
    obtain ⟨d, hdd, rd, hy⟩ := it.yl H' i x H2 xt1 hlt y
    have hcons : l.drop i = d :: l.drop (i + 1) := by
      rw [List.drop_eq_getElem_cons hlt]
      rw [List.getElem?_eq_getElem hlt] at hdd
      rw [Option.some.inj hdd]
    rw [hcons] at h'
    obtain ⟨e2, he2, h2⟩ := opt_some h'
    obtain ⟨g2, gr2⟩ := g'.yld hy
    have x2 : Xt pn H' H2 := by
      rcases hy with rfl | ⟨p, o, hp, rfl⟩
      · exact Xt.refl _ _
      · exact Xt.new hp
    refine ⟨_, n', d, e2, g2.wiped _, rd, he2, fun σ3 g3 k3 => ⟨?_, e2, n', _, g3, h2, fun b H3 n3 g4 x3 h3 => ?_⟩⟩
    · rw [wipe_alike (σ := wipe σ (own.map (·.2))) (vs := own.map (·.2)) (ws := ws) k3.1 hw k3.2, wipe_wipe]
    · have hd2 := x2 _ _ hd Dp
      have hd3 := x3 _ _ hd2 Dp
      have gr3 := x3.gr g3.pen
      have g5 := g2.xt x3 g4.pen
      cases b with
      | false =>
        rw [if_neg Bool.false_ne_true] at h3
        exact iteF ⟨(xt1.trans x2).trans x3, (xt.trans x2).trans x3, n3, acc, vs, g5, hd3, ra.gr (gr2.trans gr3), by omega, h3⟩
      | true =>
        rw [if_pos rfl] at h3
        refine iteT ⟨e2, n3, _, g4, h3, fun y H4 yd n4 g6 x4 r4 h4 => ?_⟩
        have gr4 := x4.gr g4.pen
        have hd4 := x4 _ _ hd3 Dp
        have ra4 := ra.gr ((gr2.trans gr3).trans gr4)
        have g7 := g5.xt x4 g6.pen
        have grm : Gr H4 (upd H4 D (.lst (vs ++ [y]))) := Gr.mut hd4 fun z => z
        refine ⟨vs, hd4, ?_, fun a o ha hn => ?_, fun a o ha hn => ?_, n4, acc ++ [yd], vs ++ [y], g7.side hd4 D0 Dp Dun, upd_same, (ra4.append (.cons r4 .nil)).gr grm, ?_, h4⟩
        · rw [ra4.length]
          exact Nat.lt_of_lt_of_le (show acc.length < 100001 by omega) (by decide)
        · have ne : a ≠ D := ne_of_none ha hD
          rw [upd_ne ne]
          exact (((xt1.trans x2).trans x3).trans x4) a o ha hn
        · have ne : a ≠ D := ne_of_none ha DH
          rw [upd_ne ne]
          exact (((xt.trans x2).trans x3).trans x4) a o ha hn
        · rw [List.length_append]
          show acc.length + 1 ≤ i + 1
          omega
  · have ei : i = l.length := by omega
    refine .inl ⟨by rw [ei]; exact it.st H' xt1, ?_⟩
    have : l.drop i = [] := List.drop_eq_nil_of_le (by omega)
    rw [this] at h'
    exact q _ H' _ n' g' xt ⟨D, vs, acc, rfl, rfl, DH, hd, ra⟩ h'
theorem pd_lcX (hc : X.calm = true) (hN : X.N.Nodup) (hi : PIDX X pn H0 tg iter ti) (ok : BlkOk X.N X.env.scope scope own) (hw : ∀ j ∈ ws, j ∈ own.map (·.2))
    (hg : ∀ (s : Shared) (H : Hp) (C : Addr) (cl : List (Str × Addr)) (fp : List Addr), PGD (X.blk s H scope (compEnvC scope cl C X.env) fp) pn H0 ws tg g) (ht : ∀ (s : Shared) (H : Hp) (C : Addr) (cl : List (Str × Addr)) (fp : List Addr), PTDs (X.blk s H scope (compEnvC scope cl C X.env) fp) pn H0 ifs c)
    (he : ∀ (s : Shared) (H : Hp) (C : Addr) (cl : List (Str × Addr)) (fp : List Addr), PD (X.blk s H scope (compEnvC scope cl C X.env) fp) pn H0 .m elt te) (hs : ∀ x, foldedSetIterable iter X.env x = pure x := by intro _; rfl) :
    PD X pn H0 .f (.ListComp elt [⟨tg, iter, ifs, 0⟩] scope pos) (dLc ti (own.map (·.2)) g c te) := pe_wk (pe_lc hc hN hi ok hg ht he hs) fun _ _ _ h => up_lcX hw h
/-- name = [..] on one line -/
theorem psd_setLcX {rk : Kd} {i : Nat} {y : Str} {py spos : Pos} (hc : X.calm = true) (hN : X.N.Nodup) (hsw : swapsWith (.ListComp elt [⟨tg, iter, ifs, 0⟩] scope pos) (some (.Name y py)) spos.line X.env = pure true) (hi : PIDX X pn H0 tg iter ti) (ok : BlkOk X.N X.env.scope scope own) (hw : ∀ j ∈ ws, j ∈ own.map (·.2))
    (hg : ∀ (s : Shared) (H : Hp) (C : Addr) (cl : List (Str × Addr)) (fp : List Addr), PGD (X.blk s H scope (compEnvC scope cl C X.env) fp) pn H0 ws tg g) (ht : ∀ (s : Shared) (H : Hp) (C : Addr) (cl : List (Str × Addr)) (fp : List Addr), PTDs (X.blk s H scope (compEnvC scope cl C X.env) fp) pn H0 ifs c)
    (he : ∀ (s : Shared) (H : Hp) (C : Addr) (cl : List (Str × Addr)) (fp : List Addr), PD (X.blk s H scope (compEnvC scope cl C X.env) fp) pn H0 .m elt te) (hy : X.N[i]? = some y := by rfl) (hyl : X.env.scope.names.lookup y = some .local := by rfl) (hs : ∀ x, foldedSetIterable iter X.env x = pure x := by intro _; rfl) :
    PSD X pn H0 rk (.Assign [.Name y py] (.ListComp elt [⟨tg, iter, ifs, 0⟩] scope pos) spos) (dSetO i (dLc ti (own.map (·.2)) g c te)) :=
  ps_wk (ps_setLc hc hN hy hyl hsw hi ok hg ht he hs) fun E σ H ⟨en, n, F, gd, hd, q⟩ => up_lcX hw ⟨en, n, _, gd, hd, fun v H' y n' g' x' r' h' => by
    obtain ⟨l, e0, h2⟩ := opt_some h'
    have e1 := asL_some e0
    subst e1
    obtain ⟨p, vs, l', rfl, e2, e3, e4, e5⟩ := r'
    cases e2
    exact q.nx _ H' _ n' (g'.setOwn e4 e5 (good_back gd e3) (gd.pen.ne e3) fun j m _ hj => un_fresh gd e3 j m hj) (x'.gr gd.pen) h2⟩
end
end VD

set_option Elab.async false
set_option linter.all false
set_option maxRecDepth 100000
set_option maxHeartbeats 4000000
namespace VD
open PySem L2

/-! ### sum, all, any of a list -/
def asIs : List D → Option (List Int)
  | [] => some []
  | .int i :: l => (asIs l).map (i :: ·)
  | _ :: _ => none
def asBs : List D → Option (List Bool)
  | [] => some []
  | .bl b :: l => (asBs l).map (b :: ·)
  | _ :: _ => none
theorem asIs_some : ∀ {l : List D} {is : List Int}, asIs l = some is → l = is.map D.int
  | [], is, h => by cases h; rfl
  | x :: l, is, h => by
    cases x with
    | int i =>
      have h : (asIs l).map (i :: ·) = some is := h
      obtain ⟨js, e, rfl⟩ := Option.map_eq_some_iff.mp h
      rw [asIs_some e]
      rfl
    | _ => cases h
theorem asBs_some : ∀ {l : List D} {bs : List Bool}, asBs l = some bs → l = bs.map D.bl
  | [], is, h => by cases h; rfl
  | x :: l, is, h => by
    cases x with
    | bl b =>
      have h : (asBs l).map (b :: ·) = some is := h
      obtain ⟨js, e, rfl⟩ := Option.map_eq_some_iff.mp h
      rw [asBs_some e]
      rfl
    | _ => cases h
theorem asIs_map : ∀ is : List Int, asIs (is.map D.int) = some is
  | [] => rfl
  | i :: is => by
    show (asIs (is.map D.int)).map (i :: ·) = _
    rw [asIs_map is]
    rfl
theorem asBs_map : ∀ bs : List Bool, asBs (bs.map D.bl) = some bs
  | [] => rfl
  | i :: is => by
    show (asBs (is.map D.bl)).map (i :: ·) = _
    rw [asBs_map is]
    rfl
theorem reps_intsV {pn : Pw} {K : PySem.W.Frag} {H : Hp} : ∀ {vs : List V} {is : List Int}, Reps pn K H vs (is.map D.int) → vs = is.map V.int
  | _, [], .nil => rfl
  | _, i :: is, .cons r t => by
    rw [reps_intsV t]
    cases r
    rfl
theorem reps_blsV {pn : Pw} {K : PySem.W.Frag} {H : Hp} : ∀ {vs : List V} {is : List Bool}, Reps pn K H vs (is.map D.bl) → vs = is.map V.bl
  | _, [], .nil => rfl
  | _, i :: is, .cons r t => by
    rw [reps_blsV t]
    cases r
    rfl
def fSumL : D → Option D
  | .lst l => (asIs l).map fun is => .int is.sum
  | _ => none
def fAllL : D → Option D
  | .lst l => (asBs l).map fun bs => .bl (bs.all id)
  | _ => none
def fAnyL : D → Option D
  | .lst l => (asBs l).map fun bs => .bl (bs.any id)
  | _ => none
section
variable {X : Cx} {pn : Pw} {H0 : Hp} {k : Kd} {a : Expr} {ta : TD} {pos p : Pos}
theorem pd_sumL (hc : X.calm = true) (hm : X.mg "sum" = none) (hg : Gl X "sum") (ha : PD X pn H0 k a ta) (he : starEach (a :: []) X.env = (false, eval a X.env) :: starEach [] X.env := by rfl) (hpl : (backTo pos (starEach [] X.env)).any (·.1) = false := by rfl) :
    PD X pn H0 .m (.Call (.Name "sum" p) [a] [] pos) (d1 fSumL ta) :=
  pd_b1 (ka := k) (cr_sum hc) (fun H n v x z hp h1 e Q q => by
    unfold fSumL at e
    split at e
    · obtain ⟨is, e1, rfl⟩ := Option.map_eq_some_iff.mp e
      have e2 := asIs_some e1
      subst e2
      obtain ⟨a, vs, rfl, ht, rp⟩ := (RR.rx h1).trl
      exact ⟨a, is, rfl, by rw [← reps_intsV rp]; exact ht.sq, q _ H (Xt.refl _ _) hp (.int _)⟩
    · cases e) hg hm (by decide +kernel) ha (by decide) (by decide) he hpl
theorem pd_allL (hc : X.calm = true) (hm : X.mg "all" = none) (hg : Gl X "all") (ha : PD X pn H0 k a ta) (he : starEach (a :: []) X.env = (false, eval a X.env) :: starEach [] X.env := by rfl) (hpl : (backTo pos (starEach [] X.env)).any (·.1) = false := by rfl) :
    PD X pn H0 .m (.Call (.Name "all" p) [a] [] pos) (d1 fAllL ta) :=
  pd_b1 (ka := k) (cr_all hc) (fun H n v x z hp h1 e Q q => by
    unfold fAllL at e
    split at e
    · obtain ⟨is, e1, rfl⟩ := Option.map_eq_some_iff.mp e
      have e2 := asBs_some e1
      subst e2
      obtain ⟨a, vs, rfl, ht, rp⟩ := (RR.rx h1).trl
      exact ⟨a, is, rfl, by rw [← reps_blsV rp]; exact ht.sq, q _ H (Xt.refl _ _) hp (.bl _)⟩
    · cases e) hg hm boot_all ha (by decide) (by decide) he hpl
theorem pd_anyL (hc : X.calm = true) (hm : X.mg "any" = none) (hg : Gl X "any") (ha : PD X pn H0 k a ta) (he : starEach (a :: []) X.env = (false, eval a X.env) :: starEach [] X.env := by rfl) (hpl : (backTo pos (starEach [] X.env)).any (·.1) = false := by rfl) :
    PD X pn H0 .m (.Call (.Name "any" p) [a] [] pos) (d1 fAnyL ta) :=
  pd_b1 (ka := k) (cr_any hc) (fun H n v x z hp h1 e Q q => by
    unfold fAnyL at e
    split at e
    · obtain ⟨is, e1, rfl⟩ := Option.map_eq_some_iff.mp e
      have e2 := asBs_some e1
      subst e2
      obtain ⟨a, vs, rfl, ht, rp⟩ := (RR.rx h1).trl
      exact ⟨a, is, rfl, by rw [← reps_blsV rp]; exact ht.sq, q _ H (Xt.refl _ _) hp (.bl _)⟩
    · cases e) hg hm boot_any ha (by decide) (by decide) he hpl
end
end VD

set_option Elab.async false
set_option linter.all false
set_option maxRecDepth 100000
set_option maxHeartbeats 4000000
namespace VD
open PySem L2
/-! ### further steps of meanings -/
section
variable {F : DE} {e : En} {n i j : Nat} {Q : DK} {t u v : TD} {f g : D → D → Option D} {R : Bool → Nat → Prop} {p : En → Nat → Prop} {r : DK} {o k : En → Nat → Prop} {gd : GD}
theorem s_ch : dCh f g t u v e n Q ↔ t e n fun x n1 => u e n1 fun y n2 => opt (f x y) fun z => opt (asB z) fun b => if b = true then v e n2 fun w n3 => opt (g y w) fun z' => Q z' n3 else Q (.bl false) n2 := ⟨fun h => h, fun h => h⟩
theorem s_asg : dAsg gd t ⟨p, r, o, k⟩ e n ↔ t e n fun x m => opt (gd x e) fun e' => p e' m := ⟨fun h => h, fun h => h⟩
theorem s_par {a b : Bool} : dPar i j a b t u ⟨p, r, o, k⟩ e n ↔ t e n fun x m => u e m fun y m2 => opt (slotOf a x) fun s1 => opt (slotOf b y) fun s2 => p ((e.set i (some s1)).set j (some s2)) m2 := ⟨fun h => h, fun h => h⟩
theorem s_gen {w : List D → (D → Bool) → Bool} {cs : List (Str × Nat)} {ti : TID} : dGen w cs ti t e n Q ↔ ti e n fun l m => ∃ p : D → Bool, (∀ y ∈ l, t ((capE cs e).set 0 (some (.d y))) m fun v m' => v = .bl (p y) ∧ m' = m) ∧ Q (.bl (w l p)) m := ⟨fun h => h, fun h => h⟩
theorem s_raise {C : Addr} {Ed : EK} : dRaise C Ed ⟨p, r, o, k⟩ e n ↔ Ed C "" [] n := ⟨fun h => h, fun h => h⟩
theorem s_callE {ar : Nat} {tf : TF} {EE : En → EK} {l : TAD} : dCallE ar tf EE l e n Q ↔ l e n fun k m => k.length = ar ∧ tf k m Q (EE e) := ⟨fun h => h, fun h => h⟩
theorem s_own1 {W : List D → Nat → Prop} : iOwn i e n W ↔ opt (ownAt e i) fun l => W l n := ⟨fun h => h, fun h => h⟩
theorem s_ownE {W : List D → Nat → Prop} : iOwnE i e n W ↔ opt (ownAt e i) fun l => W (enumD l) n := ⟨fun h => h, fun h => h⟩
theorem s_retO {y : List D} (h : e[i]? = some (some (.own y))) (q : r (.lst y) n) : dRetO i ⟨p, r, o, k⟩ e n := by
  show (match e[i]? with
    | some (some (.own l)) => r (.lst l) n
    | _ => False)
  rw [h]
  exact q
theorem ownE_at {W : List D → Nat → Prop} {y : List D} (h : e[i]? = some (some (.own y))) (q : W (enumD y) n) : iOwnE i e n W := s_ownE.mpr (opt_of (own_slot h) q)
theorem own1_at {W : List D → Nat → Prop} {y : List D} (h : e[i]? = some (some (.own y))) (q : W y n) : iOwn i e n W := s_own1.mpr (opt_of (own_slot h) q)
theorem put_at {y : List D} (h : e[i]? = some (some (.own y))) (q : v e n fun x m => u e m fun j m2 => opt (asI j) fun z => opt (ixN y.length z) fun q => p (e.set i (some (.own (y.set q x)))) m2) : dPut i u v ⟨p, r, o, k⟩ e n := by
  show opt (ownAt e i) _
  exact opt_of (own_slot h) q
end
section
variable {k : D → Prop} {l m : List D} {x : D}
theorem ev_catT : opt (fCatT (.tup l) (.tup m)) k ↔ l.length + m.length ≤ 100000 ∧ k (.tup (l ++ m)) := ev_if
theorem ev_toT {l : List D} : opt (fToT (.lst l)) k ↔ k (.tup l) := ⟨fun h => h, fun h => h⟩
theorem ev_toLT {l : List D} : opt (fToL (.tup l)) k ↔ k (.lst l) := ⟨fun h => h, fun h => h⟩
theorem ev_isN : opt (fIsN x .non) k ↔ k (.bl (isNon x)) := ⟨fun h => h, fun h => h⟩
theorem ev_eqI {i j : Int} : opt (fEq (.int i) (.int j)) k ↔ k (.bl (i == j)) := ⟨fun h => h, fun h => h⟩
theorem ev_neI {i j : Int} : opt (fNe (.int i) (.int j)) k ↔ k (.bl (!(i == j))) := ⟨fun h => h, fun h => h⟩
theorem ev_slT {a b : Option Int} : opt (fSlT (.tup l) a b) k ↔ k (.tup (cutD l a b)) := ⟨fun h => h, fun h => h⟩
theorem ev_slLL {a b : Option Int} : opt (fSlL (.lst l) a b) k ↔ k (.lst (cutD l a b)) := ⟨fun h => h, fun h => h⟩
end
end VD

set_option Elab.async false
set_option linter.all false
set_option maxRecDepth 100000
set_option maxHeartbeats 4000000
namespace VD
open PySem L2 PySem.Spec PyProof.Rows

/-! ### t[::-1], xs[::-1] -/
theorem adjust_back (n : Nat) : Builtin.Slice.sliceAdjust none none (-1) (n : Int) = ((n : Int) - 1, -1) := rfl
theorem places_back (n : Nat) : Builtin.Slice.slicePlaces ((n : Int) - 1) (-1) (-1) = n := by
  unfold Builtin.Slice.slicePlaces
  rw [if_neg (by omega)]
  by_cases c : ((n : Int) - 1) > -1
  · rw [if_pos c]
    have e : (-(-1 : Int)) = 1 := rfl
    rw [e, Int.ediv_one]
    omega
  · rw [if_neg c]
    omega
theorem fm_some {α β : Type} {f : α → Option β} {g : α → β} : ∀ {l : List α}, (∀ x ∈ l, f x = some (g x)) → l.filterMap f = l.map g
  | [], _ => rfl
  | x :: l, h => by
    rw [List.filterMap_cons, h x List.mem_cons_self, List.map_cons, fm_some fun y hy => h y (List.mem_cons_of_mem _ hy)]
theorem pick_back (xs : Array Value) : ((List.range xs.size).filterMap fun (k : Nat) => xs[(((xs.size : Int) - 1) + (k : Int) * (-1)).toNat]?) = xs.toList.reverse := by
  apply List.ext_getElem?
  intro i
  have e : (List.range xs.size).filterMap (fun (k : Nat) => xs[(((xs.size : Int) - 1) + (k : Int) * (-1)).toNat]?) = (List.range xs.size).map fun k => xs.toList.reverse.getD k .none := by
    refine fm_some fun k hk => ?_
    have hk := List.mem_range.mp hk
    rw [List.getD_eq_getElem?_getD, List.getElem?_reverse (by rw [Array.length_toList]; exact hk), Array.length_toList, Array.getElem?_toList]
    have e1 : (((xs.size : Int) - 1) + (k : Int) * (-1)).toNat = xs.size - 1 - k := by omega
    rw [e1, Array.getElem?_eq_getElem (by omega : xs.size - 1 - k < xs.size)]
    rfl
  rw [e, List.getElem?_map]
  by_cases c : i < xs.size
  · rw [List.getElem?_range c]
    show some (xs.toList.reverse.getD i .none) = _
    rw [List.getD_eq_getElem?_getD, List.getElem?_eq_getElem (by rw [List.length_reverse, Array.length_toList]; exact c)]
    rfl
  · rw [List.getElem?_eq_none (by rw [List.length_range]; omega), List.getElem?_eq_none (by rw [List.length_reverse, Array.length_toList]; omega)]
    rfl
section
variable {prog : Program} {w : World} {A : Around} {E : Value → Shared → Prop} {s : Shared}
theorem applied_back {sl : Addr} {vs : Value} {n : Nat} {Q : Int × Int × Nat → Shared → Prop} (hs : s.heap.IsSliceOf sl .none .none vs) (ps : IsPart vs (some (-1)))
    (h : Q (((n : Int) - 1), -1, n) s) : wpAny (model prog w) A (Builtin.Slice.sliceApplied (.ref sl) (pure (n : Int))) Q E s := by
  obtain ⟨os, ho1, ho2, ho3⟩ := id hs
  unfold Builtin.Slice.sliceApplied Builtin.Slice.sliceFields
  refine wpAny_bind (wpAny_bind (wpAny_field ho1 ho3 (x := .none) rfl (wpAny_bind (wpAny_field ho1 ho3 (x := .none) rfl (wpAny_bind (wpAny_field ho1 ho3 (x := vs) rfl (wpAny_pure ?_)))))))
  refine wpAny_bind (HT.slicePart_ ps ?_)
  show wpAny _ _ (if ((-1 : Int) == 0) = true then _ else _) _ _ s
  rw [if_neg (by decide)]
  refine wpAny_bind (HT.slicePart_ .none (wpAny_bind (HT.slicePart_ .none (wpAny_bind (wpAny_pure ?_)))))
  show wpAny _ _ (pure ((Builtin.Slice.sliceAdjust none none (-1) (n : Int)).1, (-1 : Int), Builtin.Slice.slicePlaces (Builtin.Slice.sliceAdjust none none (-1) (n : Int)).1 (Builtin.Slice.sliceAdjust none none (-1) (n : Int)).2 (-1))) _ _ s
  rw [adjust_back]
  show wpAny _ _ (pure (((n : Int) - 1), (-1 : Int), Builtin.Slice.slicePlaces ((n : Int) - 1) (-1) (-1))) _ _ s
  rw [places_back]
  exact wpAny_pure h
theorem item_back {t sl : Addr} {items : Array Value} {vs : Value} {Q : Value → Shared → Prop} (ht : IsTup s.heap t items) (hs : s.heap.IsSliceOf sl .none .none vs) (ps : IsPart vs (some (-1)))
    (h : Q (.ref s.heap.objs.size) { s with heap := s.heap.push { cls := .type "tuple", data := .seq items.toList.reverse.toArray } })
    (hz : items.size ≤ sizeLine) : wpAny (model prog w) A (getItem (.ref t) (.ref sl)) Q E s := by
  have fits : sizeOk (.seq items.toList.reverse.toArray) := by
    show items.toList.reverse.toArray.size ≤ sizeLine
    rw [List.size_toArray, List.length_reverse, Array.length_toList]
    exact hz
  obtain ⟨os, ho1, ho2, ho3⟩ := id hs
  have hT : s.TypeIs (.ref sl) "slice" := ⟨os, ho1, ho2⟩
  unfold getItem
  with_reducible refine wpAny_holding ?_
  refine wpAny_bind (wpAny_sequenceKey ht.typeIs (by decide) ?_)
  refine wpAny_bind (wpAny_callSpecial?_slot (name := Str.ofString "__getitem__") ht.typeIs PyProof.Rows.slot_tuple_getitem
    (wpAny_call_entry PyProof.Rows.slot_tuple_getitem ht.typeIs entry_tuple_getitem ?_ (args_tuple_getitem _ _)))
  show wpAny _ _ (Builtin.Tuple.tupleItemsOf (.ref t) >>= _) _ _ s
  refine wpAny_bind (tupleItemsOf_ ht ?_)
  refine wpAny_bind (wpAny_typeOf hT ?_)
  rw [if_pos (by decide)]
  refine wpAny_bind (applied_back hs ps ?_)
  show wpAny _ _ (if ((((items.size : Int) - 1) == 0) && ((-1 : Int) == 1) && (items.size == items.size)) = true then _ else _) _ _ s
  rw [if_neg (by rw [show ((-1 : Int) == 1) = false from rfl, Bool.and_false, Bool.false_and]; exact Bool.false_ne_true), pick_back]
  exact wpAny_bind (m := Builtin.Tuple.tupleExact _) (wpAny_newObj_type (wpAny_pure ⟨_, rfl, wpAny_pure h⟩) fits)
end
section
variable {X : Cx} {pn : Pw} {H0 : Hp} {a : Expr} {ta : TD} {ka : Kd}
def tBackT (K : PySem.W.Frag) (te : TE) : TE := fun σ H Q => te σ H fun x H1 => ∃ a xs, x = .ref a ∧ SqT K H1 a xs ∧ ∀ p, H1 p = none → Q (.ref p) (upd H1 p (.tup xs.reverse))
theorem pe_backT {e : Expr} {te : TE} {k : Nat} {p1 p2 p3 pos : Pos} (he : PE X e te) : PE X (.Subscript e (.Slice none none (some (.UnaryOp .USub (.Constant (.int 1) k p1) p2)) p3) pos) (tBackT X.K te) := by
  refine ⟨fun pins s σ H Q I h => Subscript_ (thn (he.run pins s σ H _ I h) fun v s1 ⟨x, H1, I1, r1, a, xs, ex, hx, q⟩ => ?_)⟩
  subst ex
  cases r1
  have st : PO X (some (.UnaryOp .USub (.Constant (.int 1) k p1) p2)) (tPart (tUn (rU fun i => .int (-i)) (tC (.int 1)))) := po_some (pe_un un_neg pe_int)
  refine wpAny_Slice (thn (po_none.run pins s1 σ H1 (fun o H2 => o = none ∧ H2 = H1) I1 ⟨rfl, rfl⟩) fun vl s2 ⟨l, H2, I2, pl, c1, c2⟩ => thn (po_none.run pins s2 σ H2 (fun o H3 => o = none ∧ H3 = H2) I2 ⟨rfl, rfl⟩) fun vu s3 ⟨u, H3, I3, pu, c3, c4⟩ => thn (st.run pins s3 σ H3 (fun o H4 => o = some (-1) ∧ H4 = H3) I3 ⟨1, rfl, -1, rfl, rfl, rfl⟩) fun vs s4 ⟨o, H4, I4, ps, c5, c6⟩ => ?_)
  subst c1 c2 c3 c4 c5 c6
  cases pl
  cases pu
  have I5 : Inv X pins σ H4 { s4 with heap := s4.heap.push { cls := .type "slice", data := .fields #[.none, .none, vs] } } := I4.kept (t' := s4.toks) fun b ob q => Heap.get?_push_of_some _ q
  obtain ⟨its, r, ht, hz⟩ := I5.tuple hx
  have hl := r.length
  refine tail_any (ops := [.ref a, .ref s4.heap.objs.size]) ht.typeIs (PyProof.Rows.slot_tuple_getitem.lookup) ?_ (by with_unfolding_all rfl)
  refine item_back ht (Heap.IsSliceOf.new _ .none .none vs) ps ?_ (by rw [List.size_toArray]; omega)
  refine ⟨.ref _, _, I5.laid (t' := s4.toks) (o := .tup xs.reverse) (fun b ob q => Heap.get?_push_of_some _ q) (Nat.le_refl _) ?_, rfl, q _ (I5.hok.fresh (Nat.le_refl _))⟩
  exact ⟨by rw [List.length_reverse]; exact hz, _, r.reverse, IsTup.new _ _⟩
def fBackT : D → Option D
  | .tup l => some (.tup l.reverse)
  | _ => none
def fBackL : D → Option D
  | .lst l => some (.lst l.reverse)
  | _ => none
theorem pd_backT {k : Nat} {p1 p2 p3 pos : Pos} (ha : PD X pn H0 ka a ta) : PD X pn H0 .m (.Subscript a (.Slice none none (some (.UnaryOp .USub (.Constant (.int 1) k p1) p2)) p3) pos) (d1 fBackT ta) :=
  pe_wk (pe_backT ha) fun σ H Q ⟨en, n, Qd, g, ht, q⟩ => ⟨en, n, _, g, ht, fun v H1 x n1 g1 x1 r1 h1 => by
    obtain ⟨z, hz, hq⟩ := opt_some h1
    unfold fBackT at hz
    split at hz
    · rename_i l
      cases hz
      obtain ⟨p, vs, rfl, h4, r4⟩ := RepX.tup (RR.rx (r1.rr g.pen))
      refine ⟨p, vs, rfl, h4, fun p1 hp => ?_⟩
      obtain ⟨a1, a2, a3⟩ := lay_tup g1.pen hp r4.reverse
      exact q _ _ _ n1 (g1.xt a1 a2) (x1.trans a1) a3 hq
    · cases hz⟩
theorem pd_backL {k : Nat} {p1 p2 p3 pos : Pos} (ha : PD X pn H0 ka a ta) : PD X pn H0 .f (.Subscript a (.Slice none none (some (.UnaryOp .USub (.Constant (.int 1) k p1) p2)) p3) pos) (d1 fBackL ta) :=
  pe_wk (pe_revL ha) fun σ H Q ⟨en, n, Qd, g, ht, q⟩ => ⟨en, n, _, g, ht, fun v H1 x n1 g1 x1 r1 h1 => by
    obtain ⟨z, hz, hq⟩ := opt_some h1
    unfold fBackL at hz
    split at hz
    · rename_i l
      cases hz
      obtain ⟨p, vs, rfl, h4, r4⟩ := RepX.lst (RR.rx (r1.rr g.pen))
      refine ⟨p, vs, rfl, h4, fun p1 hp => ?_⟩
      obtain ⟨a1, a2, a3⟩ := lay_lst g1.pen hp r4.reverse
      exact q _ _ _ n1 (g1.xt a1 a2) (x1.trans a1) (RK.back (k := .f) a3 x1 g1.pen) hq
    · cases hz⟩
end
end VD

set_option Elab.async false
set_option linter.all false
set_option maxRecDepth 100000
set_option maxHeartbeats 4000000
namespace VD
open PySem L2
/-! ### <=, >, >= of data -/
def rCoX (f : PyData → PyData → Bool) (K : PySem.W.Frag) : R2 := fun x y H Q => ∃ d e, Dp K H x d ∧ Dp K H y e ∧ PySem.W.alike d e = true ∧ d ≠ .none ∧ d.depth ≤ 60 ∧ Q (.bl (f d e)) H
theorem op_geX {X : Cx} {kr : Nat} (hr : Room kr X.A) : OpR X (compareOp .GtE) (rCoX (fun a b => !PySem.W.dataLt a b) X.K) := by
  intro pins s σ H x y v u Q I rx ry ⟨d, e, hd, he, al, hn, dp, q⟩
  obtain ⟨as, r1⟩ := Dp.reads I d x v hd rx
  obtain ⟨bs, r2⟩ := Dp.reads I e y u he ry
  exact PySem.W.rcGe_alike d e X.A s v u as bs r1 r2 al hn (by have := hr.un; omega) _ _ _ _ ⟨.bl _, H, I, rfl, q⟩
theorem op_leX {X : Cx} {kr : Nat} (hr : Room kr X.A) : OpR X (compareOp .LtE) (rCoX (fun a b => !PySem.W.dataLt b a) X.K) := by
  intro pins s σ H x y v u Q I rx ry ⟨d, e, hd, he, al, hn, dp, q⟩
  obtain ⟨as, r1⟩ := Dp.reads I d x v hd rx
  obtain ⟨bs, r2⟩ := Dp.reads I e y u he ry
  exact PySem.W.rcLe_alike d e X.A s v u as bs r1 r2 al hn (by have := hr.un; omega) _ _ _ _ ⟨.bl _, H, I, rfl, q⟩
theorem op_gtX {X : Cx} {kr : Nat} (hr : Room kr X.A) : OpR X (compareOp .Gt) (rCoX (fun a b => PySem.W.dataLt b a) X.K) := by
  intro pins s σ H x y v u Q I rx ry ⟨d, e, hd, he, al, hn, dp, q⟩
  obtain ⟨as, r1⟩ := Dp.reads I d x v hd rx
  obtain ⟨bs, r2⟩ := Dp.reads I e y u he ry
  exact PySem.W.rcGt_alike d e X.A s v u as bs r1 r2 al hn (by have := hr.un; omega) _ _ _ _ ⟨.bl _, H, I, rfl, q⟩
def fCoX (f : PyData → PyData → Bool) (x y : D) : Option D := match toP x, toP y with
  | some p, some q => if (PySem.W.alike p q && nnB p && decide (p.depth ≤ 60)) = true then some (.bl (f p q)) else none
  | _, _ => none
theorem fCoX_some {f : PyData → PyData → Bool} {x y z : D} (h : fCoX f x y = some z) : ∃ p q, toP x = some p ∧ toP y = some q ∧ PySem.W.alike p q = true ∧ p ≠ .none ∧ p.depth ≤ 60 ∧ z = .bl (f p q) := by
  unfold fCoX at h
  split at h
  · rename_i p q e1 e2
    split at h
    · rename_i c
      cases h
      simp only [Bool.and_eq_true, decide_eq_true_eq] at c
      refine ⟨p, q, e1, e2, c.1.1, fun z => ?_, c.2, rfl⟩
      subst z
      exact absurd c.1.2 Bool.false_ne_true
    · cases h
  · cases h
abbrev fGeX := fCoX fun a b => !PySem.W.dataLt a b
abbrev fLeX := fCoX fun a b => !PySem.W.dataLt b a
abbrev fGtX := fCoX fun a b => PySem.W.dataLt b a
theorem oc_coX {X : Cx} {pn : Pw} {op : CmpOp} {f : PyData → PyData → Bool} (h : OpR X (compareOp op) (rCoX f X.K)) : OpP X pn op (fCoX f) := ⟨_, h, fun _ _ H n v w x y z hp h1 h2 e Q q => by
  obtain ⟨p, p', e1, e2, s1, s2, s3, rfl⟩ := fCoX_some e
  exact ⟨p, p', h1.rx.dp e1, h2.rx.dp e2, s1, s2, s3, q _ H (Xt.refl _ _) hp (.bl _)⟩⟩
theorem oc_geX {X : Cx} {pn : Pw} {kr : Nat} (hr : Room kr X.A) : OpP X pn .GtE fGeX := oc_coX (op_geX hr)
theorem oc_leX {X : Cx} {pn : Pw} {kr : Nat} (hr : Room kr X.A) : OpP X pn .LtE fLeX := oc_coX (op_leX hr)
theorem oc_gtX {X : Cx} {pn : Pw} {kr : Nat} (hr : Room kr X.A) : OpP X pn .Gt fGtX := oc_coX (op_gtX hr)
end VD

set_option Elab.async false
set_option linter.all false
set_option maxRecDepth 100000
set_option maxHeartbeats 4000000
namespace VS
open PySem PySem.Spec PyProof.Rows L2
/-! ### sets of nested tuples of whole numbers: what a search asks of a key -/
section
variable {prog : Program} {w : World}
mutual
def numK : NestedKey → Bool
  | .none => false
  | .num _ => true
  | .text _ => false
  | .tup ks => numAll ks
def numAll : List NestedKey → Bool
  | [] => true
  | k :: ks => numK k && numAll ks
end
def NoClass (prog : Program) (w : World) (n : Nat) (s : Shared) (v : Value) : Prop := ∀ (A : Around) (E : Value → Shared → Prop) (Q : Bool → Shared → Prop), Q false s → wpAny (model prog w) A (ofAClassStatement n v) Q E s
def ByVal (prog : Program) (w : World) (n : Nat) (s : Shared) (v : Value) : Prop := ∀ (A : Around) (E : Value → Shared → Prop) (Q : Bool → Shared → Prop), Q true s → wpAny (model prog w) A (hashByValue n v) Q E s
theorem NoClass.of {n : Nat} {s : Shared} {v : Value} (h : ofAClassStatement n v = pure false) : NoClass prog w n s v := fun A E Q q => by
  rw [h]
  exact wpAny_pure q
theorem ByVal.of {n : Nat} {s : Shared} {v : Value} (h : hashByValue n v = pure true) : ByVal prog w n s v := fun A E Q q => by
  rw [h]
  exact wpAny_pure q
theorem NoClass.tup {n : Nat} {s : Shared} {a : Addr} {o : Obj} {vs : Array Value} {m : Nat} (ho : s.heap.get? a = some o) (hc : o.cls = .type "tuple") (hd : o.data = .seq vs m) (hq : ∀ v ∈ vs.toList, NoClass prog w n s v) : NoClass prog w (n + 1) s (.ref a) := fun A E Q h => by
  have hT : s.TypeIs (.ref a) "tuple" := ⟨o, ho, hc⟩
  unfold ofAClassStatement
  refine wpAny_bind (wpAny_typeOf hT ?_)
  dsimp only
  rw [if_pos (by decide)]
  refine wpAny_bind (wpAny_pure ?_)
  rw [if_neg (by decide)]
  refine wpAny_bind (wpAny_seqItems ho hd ?_)
  dsimp only
  refine wpAny_bind ?_
  show wpAny _ _ (forIn vs _ _) _ _ s
  rw [← Array.forIn_toList]
  refine wpAny_forIn_list _ (fun rest r s' => r.1 = none ∧ s' = s ∧ ∀ v ∈ rest, NoClass prog w n s v) _ ?_ ?_ _ _ ⟨rfl, rfl, hq⟩
  · rintro v rest r s' ⟨hr, rfl, hall⟩
    refine wpAny_bind (hall v List.mem_cons_self _ _ _ ?_)
    rw [if_neg (by decide)]
    exact wpAny_pure ⟨rfl, rfl, fun u hu => hall u (List.mem_cons_of_mem _ hu)⟩
  · rintro ⟨r1, r2⟩ s' ⟨hr, rfl, _⟩
    simp only at hr
    subst hr
    exact wpAny_pure h
theorem ByVal.tup {n : Nat} {s : Shared} {a : Addr} {o : Obj} {vs : Array Value} {m : Nat} (ho : s.heap.get? a = some o) (hc : o.cls = .type "tuple") (hd : o.data = .seq vs m) (hq : ∀ v ∈ vs.toList, ByVal prog w n s v) : ByVal prog w (n + 1) s (.ref a) := fun A E Q h => by
  have hT : s.TypeIs (.ref a) "tuple" := ⟨o, ho, hc⟩
  unfold hashByValue
  refine wpAny_bind (wpAny_specialOf hT F.slot_tuple_hash.lookup ?_)
  show wpAny _ _ (seqItems? (.ref a) >>= _) _ _ s
  refine wpAny_bind (wpAny_seqItems ho hd ?_)
  refine wpAny_bind ?_
  show wpAny _ _ (forIn vs _ _) _ _ s
  rw [← Array.forIn_toList]
  refine wpAny_forIn_list _ (fun rest r s' => r.1 = none ∧ s' = s ∧ ∀ v ∈ rest, ByVal prog w n s v) _ ?_ ?_ _ _ ⟨rfl, rfl, hq⟩
  · rintro v rest r s' ⟨hr, rfl, hall⟩
    refine wpAny_bind (hall v List.mem_cons_self _ _ _ ?_)
    rw [if_neg (by decide)]
    exact wpAny_pure ⟨rfl, rfl, fun u hu => hall u (List.mem_cons_of_mem _ hu)⟩
  · rintro ⟨r1, r2⟩ s' ⟨hr, rfl, _⟩
    simp only at hr
    subst hr
    exact wpAny_pure h
mutual
theorem noClass_key : ∀ (k : NestedKey) (v : Value) (n : Nat) (s : Shared), NestedIs s.heap k v → k.depth ≤ n → NoClass prog w n s v
  | .none, _, n, s, x, _ => by cases x; exact .of (by cases n <;> rfl)
  | .num i, _, n, s, x, _ => by cases x <;> exact .of (by cases n <;> rfl)
  | .text y, _, n, s, x, _ => by cases x; exact .of (by cases n <;> rfl)
  | .tup ks, _, n, s, x, hn => by
    cases x with
    | tup hg hc hd hk =>
      unfold NestedKey.depth at hn
      cases n with
      | zero => omega
      | succ n => exact .tup hg hc hd (noClass_keys ks _ n s hk (by omega))
theorem noClass_keys : ∀ (ks : List NestedKey) (vs : List Value) (n : Nat) (s : Shared), NestedAll s.heap ks vs → NestedKey.depthAll ks ≤ n → ∀ v ∈ vs, NoClass prog w n s v
  | [], _, n, s, x, _, v, hv => by cases x; cases hv
  | k :: ks, _, n, s, x, hn, v, hv => by
    cases x with
    | cons x1 x2 =>
      unfold NestedKey.depthAll at hn
      rcases List.mem_cons.mp hv with e | hv
      · rw [e]; exact noClass_key k _ n s x1 (by omega)
      · exact noClass_keys ks _ n s x2 (by omega) v hv
end
mutual
theorem byVal_key : ∀ (k : NestedKey) (v : Value) (n : Nat) (s : Shared), NestedIs s.heap k v → numK k = true → k.depth ≤ n → ByVal prog w n s v
  | .none, _, n, s, x, h, _ => by cases h
  | .num i, _, n, s, x, _, _ => by cases x <;> exact .of (by cases n <;> rfl)
  | .text y, _, n, s, x, h, _ => by cases h
  | .tup ks, _, n, s, x, h, hn => by
    cases x with
    | tup hg hc hd hk =>
      unfold NestedKey.depth at hn
      cases n with
      | zero => omega
      | succ n => exact .tup hg hc hd (byVal_keys ks _ n s hk h (by omega))
theorem byVal_keys : ∀ (ks : List NestedKey) (vs : List Value) (n : Nat) (s : Shared), NestedAll s.heap ks vs → numAll ks = true → NestedKey.depthAll ks ≤ n → ∀ v ∈ vs, ByVal prog w n s v
  | [], _, n, s, x, _, _, v, hv => by cases x; cases hv
  | k :: ks, _, n, s, x, h, hn, v, hv => by
    cases x with
    | cons x1 x2 =>
      unfold NestedKey.depthAll at hn
      have h' : (numK k && numAll ks) = true := h
      obtain ⟨h1, h2⟩ := Bool.and_eq_true_iff.mp h'
      rcases List.mem_cons.mp hv with e | hv
      · rw [e]; exact byVal_key k _ n s x1 h1 (by omega)
      · exact byVal_keys ks _ n s x2 h2 (by omega) v hv
end
end
end VS

set_option Elab.async false
set_option linter.all false
set_option maxRecDepth 100000
set_option maxHeartbeats 4000000
namespace VS
open PySem PySem.Spec PyProof.Rows L2
/-! ### a set of such keys, and the search in it -/
abbrev KL := List (Addr × NestedKey)
abbrev hs1 (w : World) (p : Addr × NestedKey) : Int := p.2.hash w
def entries (w : World) (L : KL) : List (Int × Value) := L.map fun p => (hs1 w p, Value.ref p.1)
def KeyAt (h : Heap) (k : NestedKey) (a : Addr) : Prop := NestedIs h k (.ref a) ∧ k.depth ≤ 8 ∧ numK k = true
structure NSet (w : World) (h : Heap) (a : Addr) (L : KL) (es : Array (Int × Value)) (ep : Nat) (t : SetTable) : Prop where
  obj : ∃ o, h.get? a = some o ∧ o.ExactSet ∧ o.data = .set es ep t
  ent : es.toList = entries w L
  tab : TabOk t (L.map (hs1 w))
  dis : (L.map Prod.snd).Nodup
  key : ∀ p ∈ L, KeyAt h p.2 p.1
  pl : t.plain = true
  ord : w.params.followText "set-order" = true ∨ t.led = true
  big : L.length * 5 < t.mask * 3
  few : L.length < 64
/-- the c-th step of the way of a hash -/
def pr (m : Nat) (h : Int) (c : Nat) : SetTable.Probe := nth m (runAt m (SetTable.bits h % (m + 1)) (SetTable.bits h)) c
theorem pr_j (m : Nat) (h : Int) (c : Nat) : (pr m h c).j = way m h c := rfl
theorem pr_then (m : Nat) (h : Int) (c q : Nat) : nth m (pr m h c) q = pr m h (c + q) := (nth_add m c _ q).symm
theorem pr_wayq (m : Nat) (h : Int) (c q : Nat) : (nth m (pr m h c) q).j = way m h (c + q) := congrArg SetTable.Probe.j (pr_then m h c q)
theorem adv_dummy {m : Nat} {p : SetTable.Probe} (h : p.dummy = none) : (adv m p).dummy = none := by
  unfold adv
  split <;> exact h
theorem nth_dummy {m : Nat} : ∀ (n : Nat) {p : SetTable.Probe}, p.dummy = none → (nth m p n).dummy = none
  | 0, _, h => h
  | n + 1, _, h => nth_dummy n (adv_dummy h)
theorem pr_dummy (m : Nat) (h : Int) (c : Nat) : (pr m h c).dummy = none := nth_dummy c rfl
section
variable {P : Program} {w : World} {A : Around} {E : Value → Shared → Prop} {s : Shared} {a : Addr} {L : KL} {es : Array (Int × Value)} {ep : Nat} {t : SetTable}
theorem quiet_at {x : Addr} {k : NestedKey} (hx : KeyAt s.heap k x) {Q : Bool → Shared → Prop} (q : Q true s) : wpAny (model P w) A (eqIsQuiet 8 (.ref x)) Q E s := quiet_key k _ 8 s hx.1 hx.2.1 A E Q q
theorem seen_key {x : Addr} {k : NestedKey} (hx : KeyAt s.heap k x) {ys : List Value} (hy : ∀ y ∈ ys, ∃ k' c, y = Value.ref c ∧ KeyAt s.heap k' c) {Q : Bool → Shared → Prop} (q : Q false s) : wpAny (model P w) A (searchCouldBeSeen (.ref x) ys) Q E s := by
  unfold searchCouldBeSeen
  refine wpAny_bind (wpAny_forIn_list _ (fun left r s' => r.1 = none ∧ s' = s ∧ ∀ y ∈ left, ∃ k' c, y = Value.ref c ∧ KeyAt s.heap k' c) _ ?_ ?_ _ _ ⟨rfl, rfl, hy⟩)
  · rintro y left r s' ⟨hr, rfl, all⟩
    obtain ⟨k', c, rfl, hc⟩ := all y List.mem_cons_self
    have all' : ∀ y ∈ left, ∃ k' c, y = Value.ref c ∧ KeyAt s'.heap k' c := fun u hu => all u (List.mem_cons_of_mem _ hu)
    dsimp only
    by_cases same : (x == c || (carriedByValue (.ref x) && carriedByValue (.ref c))) = true
    · exact wp_if_pos same (wpAny_pure ⟨rfl, rfl, all'⟩)
    · refine wp_if_neg same (wpAny_bind (quiet_at hx ?_))
      rw [if_neg (by decide)]
      refine wpAny_bind (quiet_at hc ?_)
      rw [if_neg (by decide)]
      refine wpAny_bind (noClass_key k _ 8 s' hx.1 hx.2.1 _ _ _ ?_)
      rw [if_neg (by decide)]
      refine wpAny_bind (noClass_key k' _ 8 s' hc.1 hc.2.1 _ _ _ ?_)
      rw [if_neg (by decide)]
      exact wpAny_pure ⟨rfl, rfl, all'⟩
  · rintro ⟨r1, r2⟩ s' ⟨hr, rfl, _⟩
    simp only at hr
    subst hr
    exact wpAny_pure q
theorem NSet.num (N : NSet w s.heap a L es ep t) : es.size = L.length := by
  rw [← Array.length_toList, N.ent]
  exact List.length_map _
theorem NSet.places (N : NSet w s.heap a L es ep t) : t.place.toList.length = L.length := by
  rw [Array.length_toList, N.tab.sz]
  exact List.length_map _
theorem NSet.okT (N : NSet w s.heap a L es ep t) : t.fits es.size = true := by
  have z := N.places
  have b := N.big
  rw [Array.length_toList] at z
  unfold SetTable.fits SetTable.fill
  rw [N.tab.dm, N.num, z, Bool.and_eq_true]
  exact ⟨beq_self_eq_true _, decide_eq_true (by show L.length + 0 ≤ t.mask; omega)⟩
theorem NSet.at_ (N : NSet w s.heap a L es ep t) {i : Nat} {p : Addr × NestedKey} (h : L[i]? = some p) : es[i]? = some (hs1 w p, Value.ref p.1) := by
  rw [← Array.getElem?_toList, N.ent, entries, List.getElem?_map, h]
  rfl
theorem NSet.hashAt (N : NSet w s.heap a L es ep t) {i : Nat} {p : Addr × NestedKey} (h : L[i]? = some p) : (es[i]?.map Prod.fst).getD 0 = hs1 w p := by
  rw [N.at_ h]
  rfl
/-- from the c-th step on; nothing that was passed is k -/
theorem NSet.look (N : NSet w s.heap a L es ep t) {x : Addr} {k : NestedKey} (hx : KeyAt s.heap k x) (hu : A.units + 8 < cLine) {K : Nat} (hf : K < 10 * SetTable.turns t.mask) (hK : way t.mask (k.hash w) K ∉ t.place.toList)
    (hb : ∀ c, c < K → way t.mask (k.hash w) c ∈ t.place.toList) {Q : SetFound → Shared → Prop} (yes : k ∈ L.map Prod.snd → Q (.there none) s) (no : k ∉ L.map Prod.snd → Q (.free (way t.mask (k.hash w) K) false) s) :
    ∀ (f c : Nat) (at_ : Option SetTable.Probe), at_.getD (t.probeStart (k.hash w)) = pr t.mask (k.hash w) c → c ≤ K → K < c + f →
      (∀ (i c' : Nat) p, c' < c → t.place.toList[i]? = some (way t.mask (k.hash w) c') → L[i]? = some p → p.2 ≠ k) →
      wpAny (model P w) A (setSearchFrom a (.ref x) (k.hash w) true f at_) Q E s := by
  intro f
  induction f with
  | zero =>
    intro c _ _ h1 h2
    omega
  | succ f ih =>
    intro c at_ ha hc hcf past
    obtain ⟨o, ho, hex, hd⟩ := N.obj
    have idx : ∀ {i j : Nat}, t.place.toList[i]? = some j → ∃ p, L[i]? = some p := fun {i j} e => by
      have z := (List.getElem?_eq_some_iff.mp e).1
      rw [N.places] at z
      exact ⟨_, List.getElem?_eq_getElem z⟩
    rw [setSearchFrom_succ]
    refine wpAny_bind (wpAny_setState_of ho hd N.okT ?_)
    dsimp only
    refine wp_if_neg (by unfold SetTable.gaveWay; rw [mask_odd N.tab.mok]; decide) ?_
    try refine wpAny_bind (wpAny_pure ?_)
    rw [ha]
    rcases go_spec t N.tab.ris N.tab.dm (fun i => (es[i]?.map (·.1)).getD 0) (k.hash w) (10 * SetTable.turns t.mask) (K - c) (pr t.mask (k.hash w) c) (pr_dummy _ _ _) (by omega) (fun q hq => by rw [pr_wayq]; exact hb _ (by omega)) (by rw [pr_wayq, show c + (K - c) = K by omega]; exact hK) with ⟨q, i, hq, hi, hh, fore, go⟩ | ⟨fore, go⟩
    · rw [pr_wayq] at hi
      rw [pr_wayq, pr_then] at go
      rw [show t.probe (fun i => (es[i]?.map (·.1)).getD 0) (k.hash w) (pr t.mask (k.hash w) c) = _ from go]
      dsimp only
      obtain ⟨p, hp⟩ := idx hi
      have hm : p ∈ L := List.mem_of_getElem? hp
      have here : t.slot (way t.mask (k.hash w) (c + q)) = .live i := slot_live N.tab.ris hi
      have ask : wpAny (model P w) A (searchRest a (.ref x) (k.hash w) true f es t (way t.mask (k.hash w) (c + q)) i (pr t.mask (k.hash w) (c + (q + 1)))) Q E s := by
        unfold searchRest
        rw [N.at_ hp]
        dsimp only
        refine wpAny_bind (wpAny_holding ((nestedKind P w).eqBool hu ⟨(N.key p hm).1, (N.key p hm).2.1⟩ ⟨hx.1, hx.2.1⟩ ?_))
        refine wpAny_bind (wpAny_setState_of ho hd N.okT ?_)
        dsimp only
        by_cases e : p.2 = k
        · exact wp_if_pos (by simp [e]) (wpAny_pure (yes (List.mem_map.mpr ⟨p, hm, e⟩)))
        · refine wp_if_neg (by simp [e]) ?_
          try refine wpAny_bind (wpAny_pure ?_)
          rw [sameMem]
          dsimp only
          rw [if_pos rfl, here]
          dsimp only
          rw [N.at_ hp]
          dsimp only
          refine wpAny_bind (wpAny_isSame_ref_self (wpAny_bind (wpAny_pure ?_)))
          rw [if_pos rfl]
          refine wp_if_neg (by simp [e]) ?_
          refine ih (c + (q + 1)) _ rfl (by omega) (by omega) fun i' c' p' h1 h2 h3 => ?_
          by_cases c1 : c' < c
          · exact past i' c' p' c1 h2 h3
          · by_cases c2 : c' < c + q
            · intro e'
              refine fore (c' - c) i' (by omega) (by rw [pr_wayq, show c + (c' - c) = c' by omega]; exact h2) ?_
              exact (N.hashAt h3).trans (congrArg (NestedKey.hash w) e')
            · have ec : c' = c + q := by omega
              rw [ec] at h2
              have z := slot_live N.tab.ris h2
              rw [here] at z
              injection z with z
              rw [← z, hp] at h3
              injection h3 with h3
              rw [← h3]
              exact e
      by_cases led : t.led = true
      · refine wp_if_neg (by simp [led]) ?_
        try refine wpAny_bind (wpAny_pure ?_)
        exact ask
      · refine wp_if_pos (by simp [led]) (wpAny_bind (seen_key hx (fun y hy => ?_) ?_))
        · obtain ⟨z, hz, rfl⟩ := List.mem_map.mp hy
          have hz : z ∈ es.toList := by
            have z1 : z ∈ es ∧ z.1 = k.hash w := by simpa using hz
            simpa using z1.1
          rw [N.ent] at hz
          obtain ⟨p2, m2, rfl⟩ := List.mem_map.mp hz
          exact ⟨p2.2, p2.1, rfl, N.key p2 m2⟩
        · refine wp_if_neg (by decide) ?_
          try refine wpAny_bind (wpAny_pure ?_)
          exact ask
    · rw [pr_wayq, show c + (K - c) = K by omega] at go
      rw [show t.probe (fun i => (es[i]?.map (·.1)).getD 0) (k.hash w) (pr t.mask (k.hash w) c) = _ from go]
      dsimp only
      refine wpAny_pure (no fun hm => ?_)
      obtain ⟨p, m, e⟩ := List.mem_map.mp hm
      obtain ⟨i, hi, ei⟩ := List.getElem_of_mem m
      have hp : L[i]? = some p := by rw [List.getElem?_eq_getElem hi, ei]
      obtain ⟨j, hj⟩ : ∃ j, t.place.toList[i]? = some j := ⟨_, List.getElem?_eq_getElem (by rw [N.places]; exact hi)⟩
      obtain ⟨c', h1, h2⟩ := N.tab.before hK (show (L.map (hs1 w))[i]? = some (k.hash w) by rw [List.getElem?_map, hp, ← e]; rfl) hj
      rw [← h2] at hj
      by_cases c1 : c' < c
      · exact past i c' p c1 hj hp e
      · refine fore (c' - c) i (by omega) (by rw [pr_wayq, show c + (c' - c) = c' by omega]; exact hj) ?_
        exact (N.hashAt hp).trans (congrArg (NestedKey.hash w) e)
/-- as adding asks -/
theorem NSet.search (N : NSet w s.heap a L es ep t) {x : Addr} {k : NestedKey} (hx : KeyAt s.heap k x) (hu : A.units + 8 < cLine) {Q : SetFound → Shared → Prop} (yes : k ∈ L.map Prod.snd → Q (.there none) s)
    (no : ∀ K, k ∉ L.map Prod.snd → way t.mask (k.hash w) K ∉ t.place.toList → (∀ c, c < K → way t.mask (k.hash w) c ∈ t.place.toList) → Q (.free (way t.mask (k.hash w) K) false) s) : wpAny (model P w) A (setSearch a (.ref x) (k.hash w) true) Q E s := by
  have b := N.big
  obtain ⟨K, h1, h2, h3⟩ := N.tab.first (by rw [List.length_map]; omega) (k.hash w)
  have few : K < 0 + 100000 := by
    have z : 10 * SetTable.turns t.mask ≤ 1420 := by
      unfold SetTable.turns
      rcases N.tab.mok with e | e | e <;> omega
    omega
  unfold setSearch
  exact N.look hx hu h1 h2 h3 yes (fun z => no K z h2 h3) 100000 0 none rfl (Nat.zero_le _) few fun _ _ _ z => absurd z (Nat.not_lt_zero _)
end
end VS

set_option Elab.async false
set_option linter.all false
set_option maxRecDepth 100000
set_option maxHeartbeats 4000000
namespace VS
open PySem PySem.Spec PyProof.Rows L2
/-! ### adding to such a set -/
theorem KeyAt.mov {h h' : Heap} {k : NestedKey} {b : Addr} (x : KeyAt h k b) (hk : ∀ c o vs n, h.get? c = some o → o.data = .seq vs n → h'.get? c = some o) : KeyAt h' k b := ⟨NestedIs.at hk _ _ x.1, x.2⟩
theorem KeyAt.beside {h h' : Heap} {k : NestedKey} {a b : Addr} {o : Obj} {es : Array (Int × Value)} {ep : Nat} {t : SetTable} (x : KeyAt h k b) (ho : h.get? a = some o) (hd : o.data = .set es ep t) (hs : Heap.SameBut a h h') : KeyAt h' k b :=
  x.mov fun c u vs n e d => by
    refine (hs.2 c fun z => ?_).trans e
    rw [z, ho] at e
    cases e
    rw [hd] at d
    cases d
theorem entries_ins (w : World) (L : KL) (p : Nat) (x : Addr × NestedKey) : entries w (L.take p ++ x :: L.drop p) = (entries w L).take p ++ (hs1 w x, Value.ref x.1) :: (entries w L).drop p := by
  simp only [entries, List.map_append, List.map_cons, List.map_take, List.map_drop]
section
variable {P : Program} {w : World} {A : Around} {E : Value → Shared → Prop} {s : Shared} {a : Addr} {L : KL} {es : Array (Int × Value)} {ep : Nat} {t : SetTable}
theorem ent_at (ent : es.toList = entries w L) (i : Nat) : es[i]? = (L[i]?).map fun p => (hs1 w p, Value.ref p.1) := by
  rw [← Array.getElem?_toList, ent, entries, List.getElem?_map]
theorem ent_num (ent : es.toList = entries w L) : es.size = L.length := by
  rw [← Array.length_toList, ent]
  exact List.length_map _
/-- the entries in another order -/
theorem reordered (ent : es.toList = entries w L) {order : Array Nat} (hp : order.toList.Perm (List.range L.length)) :
    ∃ L2 : KL, (order.filterMap (es[·]?)).toList = entries w L2 ∧ L2.Perm L ∧ L2.map (hs1 w) = order.toList.map fun i => (es.map (·.1)).getD i 0 := by
  have lt : ∀ i ∈ order.toList, i < L.length := fun i hi => List.mem_range.mp (hp.mem_iff.mp hi)
  have get : ∀ i, i < L.length → L[i]? = some (L.getD i (0, .none)) := fun i hi => by
    rw [List.getD_eq_getElem?_getD, List.getElem?_eq_getElem hi]
    rfl
  have e1 : order.toList.filterMap (fun i => L[i]?) = order.toList.map fun i => L.getD i (0, .none) := VD.fm_some fun i hi => get i (lt i hi)
  refine ⟨order.toList.map fun i => L.getD i (0, .none), ?_, ?_, ?_⟩
  · rw [Array.toList_filterMap, entries, List.map_map]
    refine VD.fm_some fun i hi => ?_
    show es[i]? = _
    rw [ent_at ent, get i (lt i hi)]
    rfl
  · rw [← e1]
    refine (hp.filterMap _).trans ?_
    have z := PySem.W.krv_all L.toArray
    simp only [List.getElem?_toArray, List.size_toArray] at z
    rw [z]
  · rw [List.map_map]
    refine List.map_congr_left fun i hi => ?_
    have q : (es.map (·.1))[i]? = some (hs1 w (L.getD i (0, .none))) := by
      rw [Array.getElem?_map, ent_at ent, get i (lt i hi)]
      rfl
    rw [Array.getD_eq_getD_getElem?, q]
    rfl
/-- the table laid anew -/
theorem relaid_set {o : Obj} (ho : s.heap.get? a = some o) (hex : o.ExactSet) (hd : o.data = .set es ep t) (ent : es.toList = entries w L) (hpl : t.place.size = es.size) (dm : t.dummies = #[]) (le : es.size ≤ t.mask) (dis : (L.map Prod.snd).Nodup)
    (key : ∀ p ∈ L, KeyAt s.heap p.2 p.1) (pl : t.plain = true) (ord : w.params.followText "set-order" = true ∨ t.led = true) (few : L.length < 64) {wanted M : Nat} (hM : SetTable.sizeAbove wanted - 1 = M) (mok : MaskOk M) (h128 : SetTable.sizeAbove wanted ≤ 128)
    (big : L.length * 5 < M * 3) {Q : Unit → Shared → Prop} (done : ∀ h' L' es' ep' t', Heap.SameBut a s.heap h' → NSet w h' a L' es' ep' t' → L'.Perm L → Q () { s with heap := h' }) : wpAny (model P w) A (setRelay a wanted) Q E s := by
  have num := ent_num ent
  have okT : t.fits es.size = true := by
    unfold SetTable.fits SetTable.fill
    rw [dm, hpl, Bool.and_eq_true]
    exact ⟨beq_self_eq_true _, decide_eq_true (by show es.size + 0 ≤ t.mask; omega)⟩
  obtain ⟨t', order, e, hp, T, g1, g2, g3, g4⟩ := relaid_ok t (hs := es.map (·.1)) hM mok (by rw [Array.size_map, num]; omega)
  rw [Array.size_map, num] at hp
  obtain ⟨L2, f1, f2, f3⟩ := reordered ent hp
  rw [← f3] at T
  have num2 : (order.filterMap (es[·]?)).size = es.size := by rw [ent_num f1, f2.length_eq, num]
  rw [setRelay_eq]
  refine wpAny_bind (wpAny_setState_of ho hd okT ?_)
  dsimp only
  refine wp_if_neg (by rw [sizeLine_eq]; omega) ?_
  try refine wpAny_bind (wpAny_pure ?_)
  rw [e]
  dsimp only
  refine wpAny_bind ?_
  refine wp_if_neg (by rw [num2]; simp) ?_
  try refine wpAny_bind (wpAny_pure ?_)
  refine wpAny_pure ?_
  dsimp only
  refine wpAny_storeSet_of ho hd ?_ (by rw [num2, num, sizeLine_eq]; omega)
  have sb : Heap.SameBut a s.heap (s.heap.update a (Obj.putSet (order.filterMap (es[·]?)) t')) := Heap.SameBut.update ..
  exact done _ L2 _ (ep + 1) t' sb ⟨⟨_, store_at ho hd, ⟨hex.1, hex.2.1, hex.2.2⟩, rfl⟩, f1, T, (f2.map Prod.snd).nodup_iff.mpr dis, fun p m => (key p (f2.mem_iff.mp m)).beside ho hd sb, by rw [g3]; exact pl, by rw [g2]; exact ord,
    by rw [f2.length_eq, g1]; exact big, by rw [f2.length_eq]; exact few⟩ f2
theorem NSet.add (N : NSet w s.heap a L es ep t) {x : Addr} {k : NestedKey} (hx : KeyAt s.heap k x) (hu : A.units + 8 < cLine) (room : L.length + 1 < 64) {Q : Bool → Shared → Prop}
    (done : ∀ b h' L' es' ep' t', Heap.SameBut a s.heap h' → NSet w h' a L' es' ep' t' → (k ∈ L.map Prod.snd → L' = L) → (k ∉ L.map Prod.snd → L'.Perm ((x, k) :: L)) → Q b { s with heap := h' }) :
    wpAny (model P w) A (setAddHashed a (.ref x) (k.hash w)) Q E s := by
  obtain ⟨o, ho, hex, hd⟩ := N.obj
  have num := N.num
  have big := N.big
  unfold setAddHashed
  refine wpAny_holding ?_
  rw [show (100000 : Nat) = 99999 + 1 from rfl, setAddHashedIn_succ]
  refine wpAny_bind (wpAny_setState_of ho hd N.okT ?_)
  dsimp only
  refine wp_if_neg (by simp [byScan, Value.scannable]) ?_
  try refine wpAny_bind (wpAny_pure ?_)
  refine wpAny_bind (N.search hx hu (fun m => wpAny_pure (done false s.heap L es ep t (Heap.SameBut.refl a s.heap) N (fun _ => rfl) fun z => absurd m z)) fun K out hK hb => ?_)
  dsimp only
  refine wpAny_bind (wpAny_setState_of ho hd N.okT ?_)
  dsimp only
  obtain ⟨q1, q2, q3, q4, q5, q6, q7, q8, q9⟩ := N.tab.put hK hb
  have q6' : (t.put (way t.mask (k.hash w) K)).1.plain = true := q6.trans N.pl
  generalize (t.put (way t.mask (k.hash w) K)) = pt at q1 q3 q4 q5 q6' q9 ⊢
  obtain ⟨t1, p1⟩ := pt
  dsimp only at q1 q3 q4 q5 q6' q9 ⊢
  subst q1
  refine wp_if_pos q6' (wpAny_bind (byVal_key k _ 8 s hx.1 hx.2.2 hx.2.1 _ _ _ ?_))
  rw [if_pos rfl, Bool.not_false, Bool.true_and]
  have ent1 : (SetTable.insertAt es (SetTable.below t.place (way t.mask (k.hash w) K)) (k.hash w, Value.ref x)).toList = entries w (L.take (SetTable.below t.place (way t.mask (k.hash w) K)) ++ (x, k) :: L.drop (SetTable.below t.place (way t.mask (k.hash w) K))) := by
    rw [SetTable.toList_insertAt, entries_ins, N.ent]
  have tab1 : TabOk t1 ((L.take (SetTable.below t.place (way t.mask (k.hash w) K)) ++ (x, k) :: L.drop (SetTable.below t.place (way t.mask (k.hash w) K))).map (hs1 w)) := by
    rw [List.map_append, List.map_cons, List.map_take, List.map_drop]
    exact q3
  have pm := put_perm L (SetTable.below t.place (way t.mask (k.hash w) K)) (x, k)
  generalize SetTable.insertAt es (SetTable.below t.place (way t.mask (k.hash w) K)) (k.hash w, Value.ref x) = es1 at ent1 ⊢
  generalize (L.take (SetTable.below t.place (way t.mask (k.hash w) K)) ++ (x, k) :: L.drop (SetTable.below t.place (way t.mask (k.hash w) K))) = L1 at ent1 tab1 pm
  have num1 : es1.size = L.length + 1 := by rw [ent_num ent1, pm.length_eq, List.length_cons]
  have dis1 : (L1.map Prod.snd).Nodup := (pm.map Prod.snd).nodup_iff.mpr (by
    rw [List.map_cons]
    exact List.nodup_cons.mpr ⟨out, N.dis⟩)
  have fill1 : t1.tooFull = decide ((L.length + 1) * 5 ≥ t1.mask * 3) := by
    unfold SetTable.tooFull
    rw [q9, List.length_map]
  refine wpAny_bind (wpAny_storeSet_of ho hd ?_ (by rw [num1, sizeLine_eq]; omega))
  have sb : Heap.SameBut a s.heap (s.heap.update a (Obj.putSet es1 t1)) := Heap.SameBut.update ..
  have ho1 := store_at (es' := es1) (t' := t1) ho hd
  show wpAny _ _ _ _ _ { s with heap := s.heap.update a (Obj.putSet es1 t1) }
  generalize s.heap.update a (Obj.putSet es1 t1) = h1 at sb ho1 ⊢
  have key1 : ∀ p ∈ L1, KeyAt h1 p.2 p.1 := fun p m => by
    rcases List.mem_cons.mp (pm.mem_iff.mp m) with rfl | m
    · exact hx.beside ho hd sb
    · exact (N.key p m).beside ho hd sb
  have ord1 : w.params.followText "set-order" = true ∨ t1.led = true := by rw [q5]; exact N.ord
  by_cases full : (L.length + 1) * 5 ≥ t1.mask * 3
  · rw [fill1, decide_eq_true full, if_pos (by decide)]
    have which : (t.mask = 7 ∧ L.length = 4) ∨ (t.mask = 31 ∧ L.length = 18) := by
      rw [q4] at full
      rcases N.tab.mok with e | e | e <;> rw [e] at full big
      · exact .inl ⟨e, by omega⟩
      · exact .inr ⟨e, by omega⟩
      · omega
    have go : ∀ M, SetTable.sizeAbove (SetTable.grown (es.size + 1)) - 1 = M → MaskOk M → SetTable.sizeAbove (SetTable.grown (es.size + 1)) ≤ 128 → (L.length + 1) * 5 < M * 3 →
        wpAny (model P w) A (do setRelay a (SetTable.grown (es.size + 1)); pure true) Q E { s with heap := h1 } := fun M b1 b2 b3 b4 => by
      refine wpAny_bind (relaid_set (s := { s with heap := h1 }) ho1 ⟨hex.1, hex.2.1, hex.2.2⟩ rfl ent1 (by rw [tab1.sz, List.length_map, ent_num ent1]) tab1.dm (by rw [num1, q4]; omega) dis1 key1 q6' ord1 (by rw [pm.length_eq]; exact room) b1 b2 b3 (by rw [pm.length_eq]; exact b4) ?_)
      intro h2 L2 es2 ep2 t2 sb2 N2 pm2
      exact wpAny_pure (done true h2 L2 es2 ep2 t2 (sb.trans sb2) N2 (fun z => absurd z out) fun _ => pm2.trans pm)
    rcases which with ⟨_, e⟩ | ⟨_, e⟩
    · exact go 31 (by rw [num, e, size_20]) (.inr (.inl rfl)) (by rw [num, e, size_20]; decide) (by omega)
    · exact go 127 (by rw [num, e, size_76]) (.inr (.inr rfl)) (by rw [num, e, size_76]; decide) (by omega)
  · rw [fill1, decide_eq_false full, if_neg (by decide)]
    exact wpAny_pure (done true h1 L1 es1 (ep + 1) t1 sb ⟨⟨_, ho1, ⟨hex.1, hex.2.1, hex.2.2⟩, rfl⟩, ent1, tab1, dis1, key1, q6', ord1, by rw [pm.length_eq]; exact Nat.lt_of_not_le full, by rw [pm.length_eq]; exact room⟩ (fun z => absurd z out) fun _ => pm)
end
end VS

set_option Elab.async false
set_option linter.all false
set_option maxRecDepth 100000
set_option maxHeartbeats 4000000
namespace VS
open PySem PySem.Spec PyProof.Rows L2
/-! ### set(..) of such keys -/
/-- L has the keys of ks, each once, with an address of ks -/
structure Has1 (ks L : KL) : Prop where
  sub : ∀ p ∈ L, p ∈ ks
  all : ∀ p ∈ ks, p.2 ∈ L.map Prod.snd
  len : L.length ≤ ks.length
theorem Has1.next {ks L L' : KL} {x : Addr × NestedKey} (g : Has1 ks L) (h1 : x.2 ∈ L.map Prod.snd → L' = L) (h2 : x.2 ∉ L.map Prod.snd → L'.Perm (x :: L)) : Has1 (ks ++ [x]) L' := by
  by_cases c : x.2 ∈ L.map Prod.snd
  · rw [h1 c]
    refine ⟨fun p m => List.mem_append_left _ (g.sub p m), fun p m => ?_, by rw [List.length_append]; exact Nat.le_succ_of_le g.len⟩
    rcases List.mem_append.mp m with m | m
    · exact g.all p m
    · rw [List.mem_singleton.mp m]
      exact c
  · have pm := h2 c
    refine ⟨fun p m => ?_, fun p m => ?_, by rw [pm.length_eq, List.length_append]; exact Nat.succ_le_succ g.len⟩
    · rcases List.mem_cons.mp (pm.mem_iff.mp m) with rfl | m
      · exact List.mem_append_right _ List.mem_cons_self
      · exact List.mem_append_left _ (g.sub p m)
    · rw [(pm.map Prod.snd).mem_iff, List.map_cons]
      rcases List.mem_append.mp m with m | m
      · exact List.mem_cons_of_mem _ (g.all p m)
      · rw [List.mem_singleton.mp m]
        exact List.mem_cons_self
section
variable {P : Program} {w : World} {A : Around} {E : Value → Shared → Prop} {s : Shared}
abbrev newSet (w : World) : Obj := { cls := .type "set", dict := none, data := .set #[] 0 (.fresh 0 0 (!w.params.followText "set-order")) }
theorem NSet.moved {h h' : Heap} {a : Addr} {L : KL} {es : Array (Int × Value)} {ep : Nat} {t : SetTable} (N : NSet w h a L es ep t) (ha : ∀ o, h.get? a = some o → h'.get? a = some o) (hk : ∀ p ∈ L, KeyAt h' p.2 p.1) : NSet w h' a L es ep t :=
  ⟨let ⟨o, ho, r⟩ := N.obj; ⟨o, ha o ho, r⟩, N.ent, N.tab, N.dis, hk, N.pl, N.ord, N.big, N.few⟩
theorem nset_new {h : Heap} {a : Addr} (ho : h.get? a = some (newSet w)) : NSet w h a [] #[] 0 (.fresh 0 0 (!w.params.followText "set-order")) where
  obj := ⟨_, ho, ⟨rfl, rfl, rfl⟩, rfl⟩
  ent := rfl
  tab := ⟨List.Pairwise.nil, rfl, rfl, .inl rfl, (fun _ z => nomatch z), fun i h j z => by simp at z⟩
  dis := List.nodup_nil
  key := fun _ z => nomatch z
  pl := rfl
  ord := by
    show _ ∨ (!w.params.followText "set-order") = true
    cases w.params.followText "set-order" with
    | true => exact .inl rfl
    | false => exact .inr rfl
  big := by
    show 0 * 5 < 7 * 3
    decide
  few := by
    show 0 < 64
    decide
theorem KeyAt.kept {h h' : Heap} {k : NestedKey} {b : Addr} (x : KeyAt h k b) (hk : ∀ c o, h.get? c = some o → h'.get? c = some o) : KeyAt h' k b := x.mov fun c o _ _ e _ => hk c o e
/-- the loop over what is walked; h0 the heap in which the keys stand -/
theorem fill {I S : Addr} {fp wr : List Addr} {G : Array GenState → Array GenState → Prop} {n : Nat} {Pv : Nat → Value → Prop} {St : Nat → Shared → Prop} {R : Result → Shared → Prop} (W : WalksS P w A.in1 I fp wr G n Pv St) (hS : S ∉ fp) {ks : KL} (hn : n = ks.length)
    (few : ks.length < 64) (val : ∀ i v, Pv i v → ∃ p, ks[i]? = some p ∧ v = .ref p.1) {h0 : Heap} (hk : ∀ p ∈ ks, KeyAt h0 p.2 p.1) (nS : h0.get? S = none) (nw : ∀ b ∈ wr, h0.get? b = none) (hu : A.in1.units + 8 < cLine) (m : Nat) :
    ∀ (i : Nat) (s : Shared), i + m = n → St i s → (∀ b o, h0.get? b = some o → s.heap.get? b = some o) → (∃ L es ep t, NSet w s.heap S L es ep t ∧ Has1 (ks.take i) L) →
      (∀ s' L es ep t, Moved (S :: wr) G s s' → NSet w s'.heap S L es ep t → Has1 ks L → (∀ b o, h0.get? b = some o → s'.heap.get? b = some o) → R (.ok (.ret .none)) s') →
      codeAny (model P w) A (.builtin "set.update.loop" ⟨[.ref S, .ref I], []⟩) R s := by
  have Sw : S ∉ wr := fun z => hS (W.sub _ z)
  have more : ∀ b ∈ wr, b ∈ S :: wr := fun _ z => List.mem_cons_of_mem _ z
  have still : ∀ {s s' : Shared}, Moved wr G s s' → (∀ b o, h0.get? b = some o → s.heap.get? b = some o) → ∀ b o, h0.get? b = some o → s'.heap.get? b = some o := fun mv k b o e =>
    mv.heap b o (fun z => by rw [nw b z] at e; cases e) (k b o e)
  induction m with
  | zero =>
    intro i s hi st k0 ⟨L, es, ep, t, N, g⟩ fin
    have e : i = n := hi
    subst e
    refine codeAny_builtin F.entry_set_update_loop ?_
    rw [Around.under_plainId F.plain_set_update_loop _]
    show wpAny _ A.in1 (pyNext (.ref I) >>= _) _ _ s
    refine wpAny_bind (W.done s _ _ st fun s' mv => ?_)
    have k1 := still mv k0
    rw [hn, List.take_length] at g
    exact wpAny_pure (fin s' L es ep t (mv.mono more) (N.moved (fun o z => mv.heap S o Sw z) fun p z => (hk p (g.sub p z)).kept k1) g k1)
  | succ m ih =>
    intro i s hi st k0 ⟨L, es, ep, t, N, g⟩ fin
    refine codeAny_builtin F.entry_set_update_loop ?_
    rw [Around.under_plainId F.plain_set_update_loop _]
    show wpAny _ A.in1 (pyNext (.ref I) >>= _) _ _ s
    refine wpAny_bind (W.item i s _ _ (by omega) st fun v s' hv st' mv => ?_)
    obtain ⟨p, hp, rfl⟩ := val i v hv
    have k1 := still mv k0
    have sub : ∀ q ∈ L, q ∈ ks := fun q z => List.mem_of_mem_take (g.sub q z)
    have N' : NSet w s'.heap S L es ep t := N.moved (fun o z => mv.heap S o Sw z) fun q z => (hk q (sub q z)).kept k1
    have hx : KeyAt s'.heap p.2 p.1 := (hk p (List.mem_of_getElem? hp)).kept k1
    have len : L.length ≤ i := Nat.le_trans g.len (List.length_take_le _ _)
    show wpAny _ A.in1 (holding [Value.ref p.1] (setAdd S (.ref p.1)) >>= _) _ _ s'
    refine wpAny_bind (wpAny_holding ?_)
    unfold setAdd
    refine wpAny_holding (wpAny_bind ((nestedKind P w).pyHash hu ⟨hx.1, hx.2.1⟩ ?_))
    refine NSet.add (s := { s' with toks := s'.toks + p.2.draws }) N' hx hu (by omega) fun b h' L' es' ep' t' sb N2 c1 c2 => ?_
    have g' : Has1 (ks.take (i + 1)) L' := by
      rw [take_next hp]
      exact g.next c1 c2
    have k2 : ∀ b o, h0.get? b = some o → h'.get? b = some o := fun b o e => (sb.2 b (fun z => by rw [z, nS] at e; cases e)).trans (k1 b o e)
    refine wpAny_pure ⟨plainId_quiet F.plain_set_update_loop _, ih (i + 1) _ (by omega) (W.frame _ s' _ _ st' (Nat.le_add_right _ _) fun b z o e => ?_) k2 ⟨L', es', ep', t', N2, g'⟩ fun s2 L2 es2 ep2 t2 mv2 N3 g2 k3 => ?_⟩
    · rw [sb.2 b (fun y : b = S => hS (y ▸ z))]
      exact e
    · refine fin s2 L2 es2 ep2 t2 (Moved.trans W.gtrans ((mv.mono more).then_heap (Nat.le_add_right _ _) fun b o z e => ?_) mv2) N3 g2 k3
      rw [sb.2 b (fun y : b = S => z (y ▸ List.mem_cons_self))]
      exact e
end
end VS

set_option Elab.async false
set_option linter.all false
set_option maxRecDepth 100000
set_option maxHeartbeats 8000000
namespace VS
open PySem PySem.Spec PyProof.Rows L2
section
variable {P : Program} {w : World} {A : Around} {E : Value → Shared → Prop} {s : Shared}
/-- what set(..) leaves: the set, filled -/
def Filled (w : World) (s : Shared) (ks : KL) (s2 : Shared) : Prop := ∃ h' tk L es ep t, s2 = { s with heap := h', toks := tk } ∧ NSet w h' s.heap.objs.size L es ep t ∧ Has1 ks L ∧ ∀ b o, s.heap.get? b = some o → h'.get? b = some o
theorem set_init_seq {l : Addr} {items : Array Value} {ks : KL} {U : Around} (hh : U.handled = none) (hl : s.heap.IsList l items ∨ s.heap.IsTuple l items) (hit : items.toList = ks.map fun p => Value.ref p.1) (hk : ∀ p ∈ ks, KeyAt s.heap p.2 p.1) (few : ks.length < 64) (hu : U.units + 11 < cLine)
    {R : PySem.Fin → Shared → Prop} (done : ∀ s2, Filled w s ks s2 → R (.done (.ret .none)) s2) :
    wpAny (model P w) U (Builtin.«set.__init__» ⟨[.ref s.heap.objs.size, .ref l], []⟩) R E { s with heap := s.heap.push (newSet w) } := by
  have hS : (s.heap.push (newSet w)).get? s.heap.objs.size = some (newSet w) := Heap.get?_push_size _ rfl
  have size1 : (s.heap.push (newSet w)).objs.size = s.heap.objs.size + 1 := Heap.size_push ..
  have num : items.size = ks.length := by
    rw [← Array.length_toList, hit]
    exact List.length_map _
  have beyond : ∀ b, s.heap.objs.size ≤ b → s.heap.get? b = none := fun b hb => by
    cases q : s.heap.get? b with
    | none => rfl
    | some o => exact absurd (Nat.lt_of_lt_of_le (Heap.lt_size q) hb) (Nat.lt_irrefl _)
  have val : ∀ (i : Nat) (v : Value), items[i]? = some v → ∃ p, ks[i]? = some p ∧ v = .ref p.1 := fun i v hv => by
    rw [← Array.getElem?_toList, hit, List.getElem?_map] at hv
    obtain ⟨p, hp, e⟩ := Option.map_eq_some_iff.mp hv
    exact ⟨p, hp, e.symm⟩
  have hh3 : U.in1.handled = none := by simp [hh]
  rcases hl with hl | hl
  · obtain ⟨ol, hol, hcl, nl, hdl⟩ := id hl
    obtain ⟨c0, d0, t0, z0⟩ := ol
    simp only at hcl hdl
    subst hcl hdl
    have lt := Heap.lt_size hol
    have hol' : (s.heap.push (newSet w)).get? l = some { cls := .type "list", dict := d0, data := .seq items nl, slots := z0 } := Heap.get?_push_of_some _ hol
    have f1 := F.sub_list_set
    have f2 := F.sub_list_frozenset
    have f3 : (Value.type "list" == Value.type "dict") = false := by decide
    have hl1 : (s.heap.push (newSet w)).IsList l items := ⟨_, hol', rfl, nl, rfl⟩
    unfold Builtin.«set.__init__» noKeywords Builtin.Frozenset.updateFrom
    generalize epi : pyIter = PI
    wp_walk
    subst epi
    refine wpAny_pyIter_list hl1 (wpAny_bind (wpAny_runValue ?_))
    have ne : l ≠ (s.heap.push (newSet w)).objs.size := by
      rw [size1]
      exact Nat.ne_of_lt (Nat.lt_succ_of_lt lt)
    have out : s.heap.objs.size ∉ [(s.heap.push (newSet w)).objs.size, l] := by
      rw [size1]
      simp only [List.mem_cons, List.not_mem_nil, or_false, not_or]
      exact ⟨Nat.ne_of_lt (Nat.lt_succ_self _), Nat.ne_of_gt lt⟩
    refine fill (h0 := s.heap) ((Walks.list hh3 _ l ne items).toS) out num few val hk (beyond _ (Nat.le_refl _)) (fun b hb => beyond b (by rw [List.mem_singleton.mp hb, size1]; exact Nat.le_succ _)) (by show U.units + 1 + 8 < cLine; omega) items.size 0 _ (by omega)
      ⟨⟨_, Heap.get?_push_size _ rfl, rfl, rfl⟩, (hl1.push _)⟩ (fun b o e => Heap.get?_push_of_some _ (Heap.get?_push_of_some _ e)) ⟨[], #[], 0, _, nset_new (Heap.get?_push_of_some _ hS), ⟨(fun _ z => nomatch z), (fun _ z => by simp at z), Nat.zero_le _⟩⟩ ?_
    intro s' L es ep t mv N g k
    obtain ⟨h', g2, d2, tk, os2⟩ := s'
    have a1 : g2 = s.gens := mv.gens
    have a2 : d2 = s.drawn := mv.drawn
    have a3 : os2 = s.os := mv.os
    subst a1 a2 a3
    exact wpAny_pure (wpAny_pure (done _ ⟨h', tk, L, es, ep, t, rfl, N, g, k⟩))
  · obtain ⟨ol, hol, hcl, nl, hdl⟩ := id hl
    obtain ⟨c0, d0, t0, z0⟩ := ol
    simp only at hcl hdl
    subst hcl hdl
    have lt := Heap.lt_size hol
    have hol' : (s.heap.push (newSet w)).get? l = some { cls := .type "tuple", dict := d0, data := .seq items nl, slots := z0 } := Heap.get?_push_of_some _ hol
    have f1 := F.sub_tuple_set
    have f2 := F.sub_tuple_frozenset
    have f3 : (Value.type "tuple" == Value.type "dict") = false := by decide
    have hl1 : (s.heap.push (newSet w)).IsTuple l items := ⟨_, hol', rfl, nl, rfl⟩
    unfold Builtin.«set.__init__» noKeywords Builtin.Frozenset.updateFrom
    generalize epi : pyIter = PI
    wp_walk
    subst epi
    refine wpAny_pyIter_tuple hl1 (wpAny_bind (wpAny_runValue ?_))
    have ne : l ≠ (s.heap.push (newSet w)).objs.size := by
      rw [size1]
      exact Nat.ne_of_lt (Nat.lt_succ_of_lt lt)
    have out : s.heap.objs.size ∉ [(s.heap.push (newSet w)).objs.size, l] := by
      rw [size1]
      simp only [List.mem_cons, List.not_mem_nil, or_false, not_or]
      exact ⟨Nat.ne_of_lt (Nat.lt_succ_self _), Nat.ne_of_gt lt⟩
    refine fill (h0 := s.heap) ((Walks.tuple hh3 _ l ne items).toS) out num few val hk (beyond _ (Nat.le_refl _)) (fun b hb => beyond b (by rw [List.mem_singleton.mp hb, size1]; exact Nat.le_succ _)) (by show U.units + 1 + 8 < cLine; omega) items.size 0 _ (by omega)
      ⟨⟨_, Heap.get?_push_size _ rfl, rfl, rfl⟩, (hl1.push _)⟩ (fun b o e => Heap.get?_push_of_some _ (Heap.get?_push_of_some _ e)) ⟨[], #[], 0, _, nset_new (Heap.get?_push_of_some _ hS), ⟨(fun _ z => nomatch z), (fun _ z => by simp at z), Nat.zero_le _⟩⟩ ?_
    intro s' L es ep t mv N g k
    obtain ⟨h', g2, d2, tk, os2⟩ := s'
    have a1 : g2 = s.gens := mv.gens
    have a2 : d2 = s.drawn := mv.drawn
    have a3 : os2 = s.os := mv.os
    subst a1 a2 a3
    exact wpAny_pure (wpAny_pure (done _ ⟨h', tk, L, es, ep, t, rfl, N, g, k⟩))
/-- set(x), x a list or a tuple of such keys -/
theorem call_set {l : Addr} {items : Array Value} {ks : KL} (hh : A.handled = none) (hl : s.heap.IsList l items ∨ s.heap.IsTuple l items) (hit : items.toList = ks.map fun p => Value.ref p.1) (hk : ∀ p ∈ ks, KeyAt s.heap p.2 p.1) (few : ks.length < 64) (hu : A.units + 16 < cLine)
    {Q : Value → Shared → Prop} (done : ∀ s2, Filled w s ks s2 → Q (.ref s.heap.objs.size) s2) : wpAny (model P w) A (call (.type "set") [.ref l]) Q E s := by
  obtain ⟨c, tl, hmro⟩ := F.called_set.mro
  have g1 := F.called_set.made
  have g2 := F.called_set.sub
  have g3 := F.called_set.notType
  have g4 := F.called_set.canCreate
  have g5 := F.typeCall_set_1 (.ref l)
  refine wpAny_call (codeAny_of_tree ?_)
  show wpAny _ _ (callAny (.type "set") _) _ _ _
  refine wpAny_pure ⟨Code.quiet_builtin _ (by decide +kernel), codeAny_builtin F.entry_type_call ?_⟩
  rw [Around.under_plain (weight_type_call_type "set" [.ref l] []) rfl]
  repeat (any_goals (first | assumption | wp_step))
  refine codeAny_mono (code_set_led1 (.ref l) (E := E) (Q₁ := fun o s1 => o = .ref s.heap.objs.size ∧ s1 = { s with heap := s.heap.push (newSet w) }) ⟨rfl, rfl⟩) fun r s1 hr => ?_
  cases r with
  | error _ => exact hr
  | ok fl =>
    cases fl with
    | ret o =>
      obtain ⟨rfl, rfl⟩ := hr
      have hT : Shared.TypeIs { s with heap := s.heap.push (newSet w) } (.ref s.heap.objs.size) "set" := ⟨_, Heap.get?_push_size _ rfl, rfl⟩
      have g6 := F.called_set.init.lookup
      have g7 := F.called_set.init.bind (.ref s.heap.objs.size)
      repeat (any_goals (first | assumption | wp_step))
      refine codeAny_mono (codeAny_call_builtin (R := wants (fun r s2 => r = .none ∧ Filled w s ks s2) E) F.called_set.init.plain F.entry_set_init (check_set_init_1 hT (set_init_seq (by simp [hh]) hl hit hk few (by show A.units + 1 + 1 + 11 < cLine; omega) fun s2 f => ⟨rfl, f⟩))) fun r2 s2 hr2 => ?_
      cases r2 with
      | error _ => exact hr2
      | ok fl2 =>
        cases fl2 with
        | ret r3 =>
          obtain ⟨rfl, f⟩ := hr2
          repeat (any_goals (first | assumption | wp_step))
          exact done _ f
        | _ => exact hr2.elim
    | _ => exact hr.elim
end
end VS

set_option Elab.async false
set_option linter.all false
set_option maxRecDepth 100000
set_option maxHeartbeats 4000000
namespace VS
open PySem PySem.Spec PyProof.Rows L2
/-! ### sorted(..) of such a set -/
/-- an order of values is an order of what they stand for -/
theorem perm_lift {α β : Type} {f : α → β} {us vs : List β} (h : us.Perm vs) : ∀ L : List α, vs = L.map f → ∃ L' : List α, L'.Perm L ∧ us = L'.map f := by
  induction h with
  | nil =>
    intro L e
    have : L = [] := List.map_eq_nil_iff.mp e.symm
    exact ⟨[], by rw [this], rfl⟩
  | cons x _ ih =>
    intro L e
    cases L with
    | nil => cases e
    | cons y L =>
      injection e with e1 e2
      obtain ⟨L', p, q⟩ := ih L e2
      exact ⟨y :: L', p.cons y, by rw [List.map_cons, e1, q]⟩
  | swap x y l =>
    intro L e
    match L, e with
    | a :: b :: L, e =>
      injection e with e1 e
      injection e with e2 e3
      exact ⟨b :: a :: L, List.Perm.swap _ _ _, by rw [List.map_cons, List.map_cons, e1, e2, e3]⟩
  | trans _ _ ih1 ih2 =>
    intro L e
    obtain ⟨L1, p1, q1⟩ := ih2 L e
    obtain ⟨L2, p2, q2⟩ := ih1 L1 q1
    exact ⟨L2, p2.trans p1, q2⟩
mutual
/-- no list within -/
def noLst : PyData → Bool
  | .list _ => false
  | .dict _ => false
  | .tuple xs => noLsts xs
  | _ => true
def noLsts : List PyData → Bool
  | [] => true
  | x :: xs => noLst x && noLsts xs
end
mutual
theorem reads_nil {h : Heap} : ∀ (d : PyData) (v : Value) (as : List Addr), noLst d = true → Reads h v d as → as = []
  | .none, _, _, _, r => by cases r; rfl
  | .bool _, _, _, _, r => by cases r; rfl
  | .int _, _, _, _, r => by cases r; rfl
  | .str _, _, _, _, r => by cases r; rfl
  | .list _, _, _, n, _ => by cases n
  | .dict _, _, _, n, _ => by cases n
  | .tuple xs, _, _, n, r => by
    cases r with
    | tuple h1 h2 h3 h4 => exact reads_nils xs _ _ n h4
theorem reads_nils {h : Heap} : ∀ (ds : List PyData) (vs : List Value) (as : List Addr), noLsts ds = true → ReadsAll h vs ds as → as = []
  | [], _, _, _, r => by cases r; rfl
  | d :: ds, _, _, n, r => by
    cases r with
    | cons h1 h2 =>
      obtain ⟨n1, n2⟩ := Bool.and_eq_true_iff.mp (show (noLst d && noLsts ds) = true from n)
      rw [reads_nil d _ _ n1 h1, reads_nils ds _ _ n2 h2]
      rfl
end
theorem each_refs : ∀ (L : KL), PySem.W.EachIs (fun v (b : Addr × NestedKey) => v = Value.ref b.1) (L.map fun p => Value.ref p.1) L
  | [] => .nil
  | p :: L => .cons rfl (each_refs L)
theorem refs_each : ∀ {L : KL} {us : List Value}, PySem.W.EachIs (fun v (b : Addr × NestedKey) => v = Value.ref b.1) us L → us = L.map fun p => Value.ref p.1
  | _, _, .nil => rfl
  | _, _, .cons e t => by rw [List.map_cons, e, refs_each t]
section
variable {P : Program} {w : World} {A : Around} {E : Value → Shared → Prop} {s : Shared} {a : Addr} {L : KL} {es : Array (Int × Value)} {ep : Nat} {t : SetTable}
theorem sorted_nset (N : NSet w s.heap a L es ep t) (hh : A.handled = none) {enc : Addr × NestedKey → PyData} (rd : ∀ p ∈ L, ∃ as, Reads s.heap (.ref p.1) (enc p) as) (nl : ∀ p ∈ L, noLst (enc p) = true) (al : PySem.W.AllAlike (L.map enc)) (so : PySem.W.Sortable (L.map enc))
    (hu : ∀ p ∈ L, A.units + 3 + (enc p).depth < cLine) {Q : Value → Shared → Prop}
    (done : ∀ s' q (out : Array Value) (c : Nat) (L' : KL), (∀ b o, s.heap.get? b = some o → s'.heap.get? b = some o) → s'.gens = s.gens → s'.os = s.os → s.heap.objs.size ≤ q → s'.heap.get? q = some (seqObj "list" out c) → L'.Perm L →
      out.toList = (L'.mergeSort (PySem.W.dataLe false enc)).map (fun p => Value.ref p.1) → Q (.ref q) s') : wpAny (model P w) A (call (.builtin "sorted") [.ref a]) Q E s := by
  obtain ⟨o, ho, hex, hd⟩ := N.obj
  have few := N.few
  refine Calls.call_function_entry kind_sorted plain_sorted entry_sorted (args_sorted1 _) ?_
  unfold Builtin.«sorted»
  refine wpAny_bind (m := checkCount "sorted" 1 1 _) (wpAny_pure ?_)
  refine wpAny_bind (collect_set (A := A.in1) hh ⟨o, ho, hex.1, hd⟩ N.okT (by rw [N.num]; unfold scanBound; omega) N.tab.ris N.ord fun s1 vs k1 z1 g1 o1 pm => ?_)
  have ev : es.toList.map (·.2) = L.map fun p => Value.ref p.1 := by
    rw [N.ent, entries, List.map_map]
    rfl
  obtain ⟨L', pL, eL⟩ := perm_lift pm L ev
  subst eL
  have mL : ∀ p ∈ L', p ∈ L := fun p m => pL.mem_iff.mp m
  have num : (L'.map fun p => Value.ref p.1).length < 64 := by rw [List.length_map, pL.length_eq]; exact few
  refine wpAny_bind (wpAny_newList ?_ (by rw [sizeLine_eq]; omega))
  have hL : (s1.heap.push (seqObj "list" (L'.map fun p => Value.ref p.1).toArray 0)).get? s1.heap.objs.size = some (seqObj "list" (L'.map fun p => Value.ref p.1).toArray 0) := Heap.get?_push_size _ rfl
  have er : PySem.W.EachIs (fun v (b : Addr × NestedKey) => ∃ as, Reads (s1.heap.push (seqObj "list" (L'.map fun p => Value.ref p.1).toArray 0)) v (enc b) as ∧ s1.heap.objs.size ∉ as) (L'.map fun p => Value.ref p.1) L' := (PySem.W.each_mem (each_refs L')).mono fun v p ⟨e, m⟩ => by
    subst e
    obtain ⟨as, r⟩ := rd p (mL p m)
    have : as = [] := reads_nil _ _ _ (nl p (mL p m)) r
    subst this
    exact ⟨[], PyProof.Rows.Reads.keeps (fun b u e => Heap.get?_push_of_some _ (k1 b u e)) r, List.not_mem_nil⟩
  have sub : ∀ d ∈ L'.map enc, d ∈ L.map enc := fun d m => (pL.map enc).mem_iff.mp m
  refine wpAny_bind (wpAny_holding (PySem.W.list_sort_data (s := { s1 with heap := s1.heap.push (seqObj "list" (L'.map fun p => Value.ref p.1).toArray 0) }) (enc := enc) hL (each_refs L') er (fun d m d' m' => al d (sub d m) d' (sub d' m')) ?so (by rw [pL.length_eq, sizeLine_eq]; omega) (fun p m => by have := hu p (mL p m); show A.units + 1 + 1 + (enc p).depth < cLine; omega) fun out ol oe => ?_))
  case so =>
    rcases so with z | z
    · exact .inl fun d m => z d (sub d m)
    · exact .inr fun d m => z d (sub d m)
  obtain ⟨c, hc⟩ := sortedHeap_at (vs := L'.map fun p => Value.ref p.1) (out := out.toArray) hL
  refine wpAny_pure ⟨_, rfl, done _ s1.heap.objs.size out.toArray c L' (fun b u e => ?_) g1 o1 z1 hc pL (refs_each oe)⟩
  have q := k1 b u e
  have lt := Heap.lt_size q
  show (sortedHeap (s1.heap.push (seqObj "list" (L'.map fun p => Value.ref p.1).toArray 0)) s1.heap.objs.size _ out.toArray).get? b = some u
  rw [sortedHeap_old (Nat.ne_of_lt lt) (by rw [size_push']; exact Nat.lt_succ_of_lt lt)]
  exact Heap.get?_push_of_some _ q
end
end VS

set_option Elab.async false
set_option linter.all false
set_option maxRecDepth 100000
set_option maxHeartbeats 4000000
namespace VS
open PySem PySem.Spec PyProof.Rows L2 VD
/-! ### data of whole numbers and tuples, as keys -/
mutual
def numP : PyData → Bool
  | .int _ => true
  | .tuple xs => numPs xs
  | _ => false
def numPs : List PyData → Bool
  | [] => true
  | x :: xs => numP x && numPs xs
end
mutual
def keyP : PyData → NestedKey
  | .int i => .num i
  | .tuple xs => .tup (keyPs xs)
  | _ => .none
def keyPs : List PyData → List NestedKey
  | [] => []
  | x :: xs => keyP x :: keyPs xs
end
theorem numPs_cons {x : PyData} {xs : List PyData} (h : numPs (x :: xs) = true) : numP x = true ∧ numPs xs = true := Bool.and_eq_true_iff.mp h
mutual
theorem numK_key : ∀ d : PyData, numP d = true → numK (keyP d) = true
  | .int _, _ => rfl
  | .tuple xs, h => numK_keys xs h
  | .none, h => nomatch h
  | .bool _, h => nomatch h
  | .str _, h => nomatch h
  | .list _, h => nomatch h
  | .dict _, h => nomatch h
theorem numK_keys : ∀ ds : List PyData, numPs ds = true → numAll (keyPs ds) = true
  | [], _ => rfl
  | x :: xs, h => by
    obtain ⟨h1, h2⟩ := numPs_cons h
    show (numK (keyP x) && numAll (keyPs xs)) = true
    rw [numK_key x h1, numK_keys xs h2]
    rfl
end
mutual
theorem noLst_num : ∀ d : PyData, numP d = true → noLst d = true
  | .int _, _ => rfl
  | .tuple xs, h => noLsts_num xs h
  | .none, h => nomatch h
  | .bool _, h => nomatch h
  | .str _, h => nomatch h
  | .list _, h => nomatch h
  | .dict _, h => nomatch h
theorem noLsts_num : ∀ ds : List PyData, numPs ds = true → noLsts ds = true
  | [], _ => rfl
  | x :: xs, h => by
    obtain ⟨h1, h2⟩ := numPs_cons h
    show (noLst x && noLsts xs) = true
    rw [noLst_num x h1, noLsts_num xs h2]
    rfl
end
mutual
theorem depth_key : ∀ d : PyData, numP d = true → (keyP d).depth = d.depth
  | .int _, _ => rfl
  | .tuple xs, h => by
    show NestedKey.depthAll (keyPs xs) + 1 = PyData.depthAll xs + 1
    rw [depth_keys xs h]
  | .none, h => nomatch h
  | .bool _, h => nomatch h
  | .str _, h => nomatch h
  | .list _, h => nomatch h
  | .dict _, h => nomatch h
theorem depth_keys : ∀ ds : List PyData, numPs ds = true → NestedKey.depthAll (keyPs ds) = PyData.depthAll ds
  | [], _ => rfl
  | x :: xs, h => by
    obtain ⟨h1, h2⟩ := numPs_cons h
    show max (keyP x).depth (NestedKey.depthAll (keyPs xs)) = max x.depth (PyData.depthAll xs)
    rw [depth_key x h1, depth_keys xs h2]
end
mutual
theorem data_key : ∀ d : PyData, numP d = true → (keyP d).data = d
  | .int _, _ => rfl
  | .tuple xs, h => by
    show PyData.tuple (NestedKey.datas (keyPs xs)) = _
    rw [data_keys xs h]
  | .none, h => nomatch h
  | .bool _, h => nomatch h
  | .str _, h => nomatch h
  | .list _, h => nomatch h
  | .dict _, h => nomatch h
theorem data_keys : ∀ ds : List PyData, numPs ds = true → NestedKey.datas (keyPs ds) = ds
  | [], _ => rfl
  | x :: xs, h => by
    obtain ⟨h1, h2⟩ := numPs_cons h
    show (keyP x).data :: NestedKey.datas (keyPs xs) = _
    rw [data_key x h1, data_keys xs h2]
end
mutual
theorem reads_key {h : Heap} : ∀ (d : PyData) (v : Value) (as : List Addr), numP d = true → Reads h v d as → NestedIs h (keyP d) v
  | .int _, _, _, _, r => by cases r; exact .int _ _
  | .tuple xs, _, _, n, r => by
    cases r with
    | tuple h1 h2 h3 h4 => exact .tup h1 h2 h3 (reads_keys xs _ _ n h4)
  | .none, _, _, n, _ => nomatch n
  | .bool _, _, _, n, _ => nomatch n
  | .str _, _, _, n, _ => nomatch n
  | .list _, _, _, n, _ => nomatch n
  | .dict _, _, _, n, _ => nomatch n
theorem reads_keys {h : Heap} : ∀ (ds : List PyData) (vs : List Value) (as : List Addr), numPs ds = true → ReadsAll h vs ds as → NestedAll h (keyPs ds) vs
  | [], _, _, _, r => by cases r; exact .nil
  | x :: xs, _, _, n, r => by
    obtain ⟨n1, n2⟩ := numPs_cons n
    cases r with
    | cons h1 h2 => exact .cons (reads_key x _ _ n1 h1) (reads_keys xs _ _ n2 h2)
end
/-! ### without doubles -/
def once : List NestedKey → List NestedKey
  | [] => []
  | k :: ks => if k ∈ ks then once ks else k :: once ks
theorem mem_once {k : NestedKey} : ∀ {ks : List NestedKey}, k ∈ once ks ↔ k ∈ ks
  | [] => Iff.rfl
  | x :: ks => by
    unfold once
    by_cases c : x ∈ ks
    · rw [if_pos c, mem_once, List.mem_cons]
      exact ⟨.inr, fun h => h.elim (fun e => e ▸ c) id⟩
    · rw [if_neg c, List.mem_cons, List.mem_cons, mem_once]
theorem once_nodup : ∀ ks : List NestedKey, (once ks).Nodup
  | [] => List.nodup_nil
  | x :: ks => by
    unfold once
    by_cases c : x ∈ ks
    · rw [if_pos c]
      exact once_nodup ks
    · rw [if_neg c]
      exact List.nodup_cons.mpr ⟨fun h => c (mem_once.mp h), once_nodup ks⟩
theorem Has1.once {ks L : KL} (g : Has1 ks L) (nd : (L.map Prod.snd).Nodup) : (L.map Prod.snd).Perm (once (ks.map Prod.snd)) :=
  (List.perm_ext_iff_of_nodup nd (once_nodup _)).mpr fun k => by
    rw [mem_once]
    constructor
    · intro h
      obtain ⟨p, m, rfl⟩ := List.mem_map.mp h
      exact List.mem_map.mpr ⟨p, g.sub p m, rfl⟩
    · intro h
      obtain ⟨p, m, rfl⟩ := List.mem_map.mp h
      exact g.all p m
end VS

set_option Elab.async false
set_option linter.all false
set_option maxRecDepth 100000
set_option maxHeartbeats 4000000
namespace VS
open PySem PySem.Spec PyProof.Rows L2 VD
/-! ### the order is one only -/
mutual
theorem eqv_num : ∀ (x y : PyData), numP x = true → numP y = true → PyData.eqv x y = true → x = y
  | .int a, y, _, hy, e => by
    cases y with
    | int b =>
      have : a = b := by simpa [PyData.eqv] using e
      rw [this]
    | tuple => simp [PyData.eqv] at e
    | _ => cases hy
  | .tuple xs, y, hx, hy, e => by
    cases y with
    | tuple ys => rw [eqv_nums xs ys hx hy (by simpa [PyData.eqv] using e)]
    | int b => simp [PyData.eqv] at e
    | _ => cases hy
  | .none, _, h, _, _ => nomatch h
  | .bool _, _, h, _, _ => nomatch h
  | .str _, _, h, _, _ => nomatch h
  | .list _, _, h, _, _ => nomatch h
  | .dict _, _, h, _, _ => nomatch h
theorem eqv_nums : ∀ (xs ys : List PyData), numPs xs = true → numPs ys = true → PyData.eqvAll xs ys = true → xs = ys
  | [], [], _, _, _ => rfl
  | [], _ :: _, _, _, e => by simp [PyData.eqvAll] at e
  | _ :: _, [], _, _, e => by simp [PyData.eqvAll] at e
  | x :: xs, y :: ys, hx, hy, e => by
    obtain ⟨a1, a2⟩ := numPs_cons hx
    obtain ⟨b1, b2⟩ := numPs_cons hy
    rw [PyData.eqvAll, Bool.and_eq_true] at e
    rw [eqv_num x y a1 b1 e.1, eqv_nums xs ys a2 b2 e.2]
end
theorem toks_inj {x y : PyData} (al : PySem.W.alike x y = true) (hx : numP x = true) (hy : numP y = true) (e : PySem.W.keyToks x = PySem.W.keyToks y) : x = y := by
  cases c : PyData.eqv x y with
  | true => exact eqv_num x y hx hy c
  | false =>
    have z := (PySem.W.toks_eqv x y al).2 c [] [Sum.inl 0]
    rw [← e, PySem.W.lex_pre, lex_irrefl] at z
    cases z
theorem leD_trans (a b c : D) (h1 : leD a b = true) (h2 : leD b c = true) : leD a c = true := by
  unfold leD PySem.W.dataLt at *
  rw [Bool.not_eq_true'] at *
  cases q : PyProof.Rows.lexLt itemOrd (PySem.W.keyToks (keyD c)) (PySem.W.keyToks (keyD a)) with
  | false => rfl
  | true =>
    cases r : PyProof.Rows.lexLt itemOrd (PySem.W.keyToks (keyD a)) (PySem.W.keyToks (keyD b)) with
    | true =>
      rw [lex_trans _ _ _ q r] at h2
      cases h2
    | false =>
      rw [lex_total _ _ r h1] at q
      rw [q] at h2
      cases h2
theorem leD_total (a b : D) : (leD a b || leD b a) = true := by
  unfold leD PySem.W.dataLt
  cases q : PyProof.Rows.lexLt itemOrd (PySem.W.keyToks (keyD b)) (PySem.W.keyToks (keyD a)) with
  | false => rfl
  | true =>
    cases r : PyProof.Rows.lexLt itemOrd (PySem.W.keyToks (keyD a)) (PySem.W.keyToks (keyD b)) with
    | false => rfl
    | true =>
      have z := lex_trans _ _ _ q r
      rw [lex_irrefl] at z
      cases z
mutual
def ofP : PyData → D
  | .int i => .int i
  | .tuple xs => .tup (ofPs xs)
  | _ => .non
def ofPs : List PyData → List D
  | [] => []
  | x :: xs => ofP x :: ofPs xs
end
mutual
theorem of_toP : ∀ (p : PyData) (x : D), toP x = some p → numP p = true → ofP p = x
  | .int i, x, e, _ => by
    cases x with
    | int j => cases e; rfl
    | tup l =>
      have e : (toPs l).map PyData.tuple = some (.int i) := e
      obtain ⟨_, _, z⟩ := Option.map_eq_some_iff.mp e
      cases z
    | lst l =>
      have e : (toPs l).map PyData.list = some (.int i) := e
      obtain ⟨_, _, z⟩ := Option.map_eq_some_iff.mp e
      cases z
    | _ => cases e
  | .tuple ps, x, e, n => by
    cases x with
    | tup l =>
      have e : (toPs l).map PyData.tuple = some (.tuple ps) := e
      obtain ⟨qs, e1, e2⟩ := Option.map_eq_some_iff.mp e
      cases e2
      show D.tup (ofPs ps) = _
      rw [of_toPs ps l e1 n]
    | lst l =>
      have e : (toPs l).map PyData.list = some (.tuple ps) := e
      obtain ⟨_, _, z⟩ := Option.map_eq_some_iff.mp e
      cases z
    | _ => cases e
  | .none, _, _, h => nomatch h
  | .bool _, _, _, h => nomatch h
  | .str _, _, _, h => nomatch h
  | .list _, _, _, h => nomatch h
  | .dict _, _, _, h => nomatch h
theorem of_toPs : ∀ (ps : List PyData) (l : List D), toPs l = some ps → numPs ps = true → ofPs ps = l
  | [], l, e, _ => by
    cases l with
    | nil => rfl
    | cons y l =>
      unfold toPs at e
      split at e
      · cases e
      · cases e
  | p :: ps, l, e, n => by
    obtain ⟨n1, n2⟩ := numPs_cons n
    cases l with
    | nil => cases e
    | cons y l =>
      unfold toPs at e
      split at e
      · rename_i q qs e1 e2
        cases e
        show ofP p :: ofPs ps = _
        rw [of_toP p y e1 n1, of_toPs ps l e2 n2]
      · cases e
end
/-- two orders of the same data are sorted alike -/
theorem sort_one {A B : List D} (pm : A.Perm B) (num : ∀ x ∈ A, toP x = some (keyD x) ∧ numP (keyD x) = true) (al : ∀ x ∈ A, ∀ y ∈ A, PySem.W.alike (keyD x) (keyD y) = true) : A.mergeSort leD = B.mergeSort leD := by
  have pa := List.mergeSort_perm A leD
  have pb := List.mergeSort_perm B leD
  refine List.Perm.eq_of_pairwise (le := fun a b => leD a b = true) (fun a b ha hb h1 h2 => ?_) (List.pairwise_mergeSort leD_trans leD_total A) (List.pairwise_mergeSort leD_trans leD_total B) (pa.trans (pm.trans pb.symm))
  have ma : a ∈ A := pa.mem_iff.mp ha
  have mb : b ∈ A := pm.mem_iff.mpr (pb.mem_iff.mp hb)
  unfold leD PySem.W.dataLt at h1 h2
  rw [Bool.not_eq_true'] at h1 h2
  have e := toks_inj (al a ma b mb) (num a ma).2 (num b mb).2 (lex_total _ _ h2 h1)
  rw [← of_toP _ a (num a ma).1 (num a ma).2, ← of_toP _ b (num b mb).1 (num b mb).2, e]
end VS

set_option Elab.async false
set_option linter.all false
set_option maxRecDepth 100000
set_option maxHeartbeats 4000000
namespace VS
open PySem PySem.Spec PyProof.Rows L2 VD
/-! ### the rules of the layer -/
/-- the set at a, its keys' objects left aside -/
def NSO (w : World) (a : Addr) (L : KL) : HO := .ext fun h => ∃ h0 es ep t, NSet w h0 a L es ep t ∧ ∀ o, h0.get? a = some o → h.get? a = some o
theorem nso_new {P : Program} {w : World} {H : Hp} {h : Heap} {a : Addr} {L : KL} {es : Array (Int × Value)} {ep : Nat} {t : SetTable} (N : NSet w h a L es ep t) : ObjOk P w H h a (NSO w a L) := by
  obtain ⟨o, ho, _⟩ := N.obj
  exact ⟨⟨h, es, ep, t, N, fun _ e => e⟩, ⟨o, ho⟩, fun h1 h2 ⟨h0, es', ep', t', N', k0⟩ k => ⟨h0, es', ep', t', N', fun o e => k o (k0 o e)⟩⟩
/-- the tuple at p.1 is data of whole numbers, p.2 its key -/
def KeyD (K : PySem.W.Frag) (H : Hp) (p : Addr × NestedKey) : Prop := Dp K H (.ref p.1) p.2.data ∧ numP p.2.data = true ∧ keyP p.2.data = p.2 ∧ p.2.depth ≤ 8
section
variable {X : Cx} {pins : List (Addr × Obj)} {σ : L2.St} {H : Hp} {s : Shared}
theorem KeyD.reads {p : Addr × NestedKey} (k : KeyD X.K H p) (I : L2.Inv X pins σ H s) : ∃ as, Reads s.heap (.ref p.1) p.2.data as := Dp.reads I _ (.ref p.1) (.ref p.1) k.1 rfl
theorem KeyD.keyAt {p : Addr × NestedKey} (k : KeyD X.K H p) (I : L2.Inv X pins σ H s) : KeyAt s.heap p.2 p.1 := by
  obtain ⟨as, r⟩ := k.reads I
  have z := reads_key _ _ _ k.2.1 r
  rw [k.2.2.1] at z
  refine ⟨z, k.2.2.2, ?_⟩
  have y := numK_key _ k.2.1
  rw [k.2.2.1] at y
  exact y
theorem refs_vals : ∀ {ks : KL} {us : List Value}, Vals (ks.map fun p => V.ref p.1) us → us = ks.map fun p => Value.ref p.1
  | [], _, .nil => rfl
  | p :: ks, _, .cons r t => by
    obtain rfl := r
    rw [refs_vals t]
    rfl
theorem vals_refs : ∀ ks : KL, Vals (ks.map fun p => V.ref p.1) (ks.map fun p => Value.ref p.1)
  | [] => .nil
  | p :: ks => .cons rfl (vals_refs ks)
def rSetN (K : PySem.W.Frag) (w : World) : List V → Hp → VK → Prop := fun xs H Q => ∃ (l : Addr) (ks : KL), xs = [.ref l] ∧ (SqL K H l (ks.map fun p => V.ref p.1) ∨ SqT K H l (ks.map fun p => V.ref p.1)) ∧ (∀ p ∈ ks, KeyD K H p) ∧ ks.length < 64 ∧
  ∀ a L, H a = none → Has1 ks L → (L.map Prod.snd).Nodup → Q (.ref a) (upd H a (NSO w a L))
theorem cr_setN {kr : Nat} (hc : X.calm = true) (hr : Room kr X.A) : CallR X (.type "set") (rSetN X.K X.w) := by
  intro pins s σ H xs us Q I r ⟨l, ks, ex, hl, hk, few, q⟩
  subst ex
  rw [Vals.ref1 r]
  have un := hr.un
  have hn : H s.heap.objs.size = none := I.hok.fresh (Nat.le_refl _)
  have keys : ∀ p ∈ ks, KeyAt s.heap p.2 p.1 := fun p m => (hk p m).keyAt I
  have main : ∀ its : List Value, (s.heap.IsList l its.toArray ∨ s.heap.IsTuple l its.toArray) → Vals (ks.map fun p => V.ref p.1) its → wpAny (model X.prog X.w) X.A (call (.type "set") [.ref l]) (EP X pins σ Q) X.xe s := fun its hi rv => by
    refine call_set (P := X.prog) (w := X.w) (I.ok.hd hc) hi (by simpa using refs_vals rv) keys few (by omega) fun s2 ⟨h', tk, L, es, ep, t, e, N, g, k⟩ => ?_
    subst e
    exact ⟨.ref s.heap.objs.size, upd H s.heap.objs.size (NSO X.w s.heap.objs.size L), I.laid (t' := tk) k (Nat.le_refl _) (nso_new N), rfl, q _ L hn g N.dis⟩
  rcases hl with hl | hl
  · obtain ⟨its, rv, pl, hz⟩ := I.list hl
    exact main its (.inl pl.isList) rv
  · obtain ⟨its, rv, ⟨o, ho, h1, n, h2⟩, hz⟩ := I.tuple hl
    exact main its (.inr ⟨o, ho, h1, n, h2⟩) rv
def rSortN (K : PySem.W.Frag) (w : World) : List V → Hp → VK → Prop := fun xs H Q => ∃ (a : Addr) (L : KL), xs = [.ref a] ∧ H a = some (NSO w a L) ∧ (∀ p ∈ L, KeyD K H p) ∧ PySem.W.AllAlike (L.map fun p => p.2.data) ∧ PySem.W.Sortable (L.map fun p => p.2.data) ∧
  ∀ (L' : KL) (q : Addr), L'.Perm L → H q = none → Q (.ref q) (upd H q (.lst ((L'.mergeSort (PySem.W.dataLe false fun p => p.2.data)).map fun p => V.ref p.1)))
theorem cr_sortN {kr : Nat} (hc : X.calm = true) (hr : Room kr X.A) : CallR X (.builtin "sorted") (rSortN X.K X.w) := by
  intro pins s σ H xs us Q I r ⟨a, L, ex, ha, hk, al, so, q⟩
  subst ex
  rw [Vals.ref1 r]
  have un := hr.un
  obtain ⟨h0, es, ep, t, N0, k0⟩ : ∃ h0 es ep t, NSet X.w h0 a L es ep t ∧ ∀ o, h0.get? a = some o → s.heap.get? a = some o := (I.hok a _ ha).1
  have N := N0.moved k0 fun p m => (hk p m).keyAt I
  refine sorted_nset N (I.ok.hd hc) (enc := fun p => p.2.data) (fun p m => (hk p m).reads I) (fun p m => noLst_num _ (hk p m).2.1) al so (fun p m => ?_) fun s' qa out c L' k g o hp hq pm eo => ?_
  · have d := depth_key p.2.data (hk p m).2.1
    rw [(hk p m).2.2.1] at d
    have := (hk p m).2.2.2
    show X.A.units + 3 + p.2.data.depth < cLine
    omega
  · have hn : H qa = none := I.hok.fresh hp
    have len : ((L'.mergeSort (PySem.W.dataLe false fun p => p.2.data)).map fun p => V.ref p.1).length ≤ sizeLine := by
      rw [List.length_map, List.length_mergeSort, pm.length_eq, sizeLine_eq]
      have := N.few
      omega
    have rv : Vals ((L'.mergeSort (PySem.W.dataLe false fun p => p.2.data)).map fun p => V.ref p.1) out.toList := by
      rw [eo]
      exact vals_refs _
    have J : L2.Inv X pins σ (upd H qa (.lst ((L'.mergeSort (PySem.W.dataLe false fun p => p.2.data)).map fun p => V.ref p.1))) { s with heap := s'.heap, gens := s'.gens, drawn := s'.drawn, toks := s'.toks } :=
      I.call (ch := []) (Un.laid k hp hn) (I.hok.laid k hp ⟨len, out.toList, c, rv, hq⟩) (by rw [g]; exact I.bare) (fun _ z => nomatch z)
    have e : s' = { s with heap := s'.heap, gens := s'.gens, drawn := s'.drawn, toks := s'.toks } := by
      cases s'
      cases s
      cases o
      rfl
    rw [e]
    exact ⟨.ref qa, _, J, rfl, q L' qa pm hn⟩
end
end VS

set_option Elab.async false
set_option linter.all false
set_option maxRecDepth 100000
set_option maxHeartbeats 4000000
namespace VS
open PySem PySem.Spec PyProof.Rows L2 VD
/-! ### sorted(set(..)) of data -/
def tupP : PyData → Bool
  | .tuple _ => true
  | _ => false
def setB (ps : List PyData) : Bool := (ps.all fun d => numP d && (tupP d && decide (d.depth ≤ 8))) && (sortB ps && decide (ps.length < 64))
def seqD : D → Option (List D)
  | .lst l => some l
  | .tup l => some l
  | _ => none
def onceD (ps : List PyData) : List D := (once (ps.map keyP)).map fun k => ofP k.data
def fSetS (x : D) : Option D := match seqD x with
  | some l => match toPs l with
    | some ps => if setB ps = true then some (.lst ((onceD ps).mergeSort leD)) else none
    | none => none
  | none => none
theorem fSetS_some {x z : D} (h : fSetS x = some z) : ∃ l ps, seqD x = some l ∧ toPs l = some ps ∧ setB ps = true ∧ z = .lst ((onceD ps).mergeSort leD) := by
  unfold fSetS at h
  split at h
  · rename_i l e
    split at h
    · rename_i ps e2
      split at h
      · rename_i c
        cases h
        exact ⟨l, ps, e, e2, c, rfl⟩
      · cases h
    · cases h
  · cases h
theorem setB_ok {ps : List PyData} (h : setB ps = true) : (∀ d ∈ ps, numP d = true ∧ tupP d = true ∧ d.depth ≤ 8) ∧ PySem.W.AllAlike ps ∧ PySem.W.Sortable ps ∧ ps.length < 64 := by
  unfold setB at h
  simp only [Bool.and_eq_true, List.all_eq_true, decide_eq_true_eq] at h
  obtain ⟨h1, h2, h3⟩ := h
  obtain ⟨a, b, _⟩ := sortB_ok h2
  exact ⟨h1, a, b, h3⟩
structure Stands (pn : Pw) (K : PySem.W.Frag) (H : Hp) (ps : List PyData) (p : Addr × NestedKey) : Prop where
  rep : Rep pn K H (.ref p.1) (ofP p.2.data)
  toP : VD.toP (ofP p.2.data) = some p.2.data
  num : numP p.2.data = true
  key : keyP p.2.data = p.2
  mem : p.2.data ∈ ps
theorem stands_all {pn : Pw} {K : PySem.W.Frag} {H : Hp} : ∀ {vs : List V} {l : List D} {ps : List PyData}, Reps pn K H vs l → toPs l = some ps → (∀ d ∈ ps, numP d = true ∧ tupP d = true) →
    ∃ ks : KL, vs = ks.map (fun p => V.ref p.1) ∧ ks.map Prod.snd = ps.map keyP ∧ ∀ p ∈ ks, Stands pn K H ps p
  | _, _, ps, .nil, e, _ => by
    cases e
    exact ⟨[], rfl, rfl, fun _ z => nomatch z⟩
  | _, _, ps, .cons (v := v) (x := x) (vs := vs) (l := l) r t, e, h => by
    unfold toPs at e
    split at e
    · rename_i d ds e1 e2
      cases e
      obtain ⟨h1, h2⟩ := h d List.mem_cons_self
      obtain ⟨ks, a1, a2, a3⟩ := stands_all t e2 fun y m => h y (List.mem_cons_of_mem _ m)
      have ex := of_toP d x e1 h1
      have ed := data_key d h1
      obtain ⟨a, rfl⟩ : ∃ a, v = V.ref a := by
        cases r with
        | tup => exact ⟨_, rfl⟩
        | lst => exact ⟨_, rfl⟩
        | pen => exact ⟨_, rfl⟩
        | ro => exact ⟨_, rfl⟩
        | exc0 => exact ⟨_, rfl⟩
        | exc1 => exact ⟨_, rfl⟩
        | non => cases e1; cases h2
        | bl => cases e1; cases h2
        | int => cases e1; cases h2
        | str => cases e1; cases h2
      refine ⟨(a, keyP d) :: ks, by rw [List.map_cons, a1], by rw [List.map_cons, List.map_cons, a2], fun p m => ?_⟩
      rcases List.mem_cons.mp m with rfl | m
      · exact ⟨by rw [ed, ex]; exact r, by rw [ed, ex]; exact e1, by rw [ed]; exact h1, by rw [ed], by rw [ed]; exact List.mem_cons_self⟩
      · obtain ⟨b1, b2, b3, b4, b5⟩ := a3 p m
        exact ⟨b1, b2, b3, b4, List.mem_cons_of_mem _ b5⟩
    · cases e
theorem Stands.keyD {pn : Pw} {K : PySem.W.Frag} {H : Hp} {ps : List PyData} {p : Addr × NestedKey} (z : Stands pn K H ps p) (hd : ∀ d ∈ ps, d.depth ≤ 8) : KeyD K H p := by
  refine ⟨z.rep.dp z.toP, z.num, z.key, ?_⟩
  have d := depth_key p.2.data z.num
  rw [z.key] at d
  rw [d]
  exact hd _ z.mem
theorem Stands.gr {pn : Pw} {K : PySem.W.Frag} {H H' : Hp} {ps : List PyData} {p : Addr × NestedKey} (z : Stands pn K H ps p) (g : Gr H H') : Stands pn K H' ps p := ⟨z.rep.gr g, z.toP, z.num, z.key, z.mem⟩
theorem reps_of {pn : Pw} {K : PySem.W.Frag} {H : Hp} {ps : List PyData} : ∀ {M : KL}, (∀ p ∈ M, Stands pn K H ps p) → Reps pn K H (M.map fun p => V.ref p.1) (M.map fun p => ofP p.2.data)
  | [], _ => .nil
  | p :: M, h => .cons (h p List.mem_cons_self).rep (reps_of fun q m => h q (List.mem_cons_of_mem _ m))
theorem keyD_of {pn : Pw} {K : PySem.W.Frag} {H : Hp} {ps : List PyData} {p : Addr × NestedKey} (z : Stands pn K H ps p) : VD.keyD (ofP p.2.data) = p.2.data := by
  unfold VD.keyD
  rw [z.toP]
  rfl
/-- the model's list is the one that is meant -/
theorem list_meant {pn : Pw} {K : PySem.W.Frag} {H : Hp} {ps : List PyData} {ks L L' : KL} (st : ∀ p ∈ ks, Stands pn K H ps p) (ek : ks.map Prod.snd = ps.map keyP) (g : Has1 ks L) (nd : (L.map Prod.snd).Nodup) (pm : L'.Perm L) (al : PySem.W.AllAlike ps) :
    ((L'.mergeSort (PySem.W.dataLe false fun p => p.2.data)).map fun p => ofP p.2.data) = (onceD ps).mergeSort leD := by
  have stL : ∀ p ∈ L', Stands pn K H ps p := fun p m => st p (g.sub p (pm.mem_iff.mp m))
  rw [List.map_mergeSort (r := PySem.W.dataLe false fun p : Addr × NestedKey => p.2.data) (s := leD) (f := fun p => ofP p.2.data) fun a ha b hb => by
    unfold leD
    rw [keyD_of (stL a ha), keyD_of (stL b hb)]
    rfl]
  refine sort_one ?_ (fun x m => ?_) fun x m y m2 => ?_
  · have e1 : (L'.map fun p => ofP p.2.data) = (L'.map Prod.snd).map fun k => ofP k.data := by rw [List.map_map]; rfl
    rw [e1, onceD]
    refine List.Perm.map _ (((pm.map Prod.snd).trans (g.once nd)).trans ?_)
    rw [ek]
  · obtain ⟨p, mp, rfl⟩ := List.mem_map.mp m
    have z := stL p mp
    rw [keyD_of z]
    exact ⟨z.toP, z.num⟩
  · obtain ⟨p, mp, rfl⟩ := List.mem_map.mp m
    obtain ⟨p2, mp2, rfl⟩ := List.mem_map.mp m2
    rw [keyD_of (stL p mp), keyD_of (stL p2 mp2)]
    exact al _ (stL p mp).mem _ (stL p2 mp2).mem
end VS

set_option Elab.async false
set_option linter.all false
set_option maxRecDepth 100000
set_option maxHeartbeats 4000000
namespace VS
open PySem PySem.Spec PyProof.Rows L2 VD
theorem boot_set' : bootBuiltins "set" = some (.type "set") := by decide +kernel
section
variable {X : Cx} {pn : Pw} {H0 : Hp} {k : Kd} {a : Expr} {ta : TD} {pos p pos2 p2 : Pos} {kr : Nat}
/-- sorted(set(a)) -/
theorem pd_sortedSet (hr : Room kr X.A) (hc : X.calm = true) (hm : X.mg "sorted" = none) (hg : Gl X "sorted") (hm2 : X.mg "set" = none) (hg2 : Gl X "set") (ha : PD X pn H0 k a ta)
    (he : starEach (a :: []) X.env = (false, eval a X.env) :: starEach [] X.env := by rfl) (he2 : starEach (Expr.Call (.Name "set" p2) [a] [] pos2 :: []) X.env = (false, eval (.Call (.Name "set" p2) [a] [] pos2) X.env) :: starEach [] X.env := by rfl)
    (hpl : (backTo pos (starEach [] X.env)).any (·.1) = false := by rfl) (hpl2 : (backTo pos2 (starEach [] X.env)).any (·.1) = false := by rfl) :
    PD X pn H0 .f (.Call (.Name "sorted" p) [.Call (.Name "set" p2) [a] [] pos2] [] pos) (d1 fSetS ta) :=
  pe_wk (pe_callB (cr_sortN hc hr) hg hm boot_sorted' (pa_cons (pe_callTy (cr_setN hc hr) hg2 hm2 boot_set' (pa_cons ha pa_nil he) (by decide) (by decide) he hpl2) pa_nil he2) (by decide) (by decide) he2 hpl) fun σ H Q ⟨en, n, Qd, g, ht, q⟩ => ⟨en, n, _, g, ht, fun v H1 x n1 g1 x1 r1 h1 => by
    obtain ⟨z, hz, hq⟩ := opt_some h1
    obtain ⟨l, ps, e1, e2, e3, rfl⟩ := fSetS_some hz
    obtain ⟨b1, b2, b3, b4⟩ := setB_ok e3
    obtain ⟨c, vs, rfl, hs, rp⟩ : ∃ c vs, v = .ref c ∧ (SqL X.K H1 c vs ∨ SqT X.K H1 c vs) ∧ Reps pn X.K H1 vs l := by
      have rx := RR.rx (r1.rr g.pen)
      unfold seqD at e1
      split at e1
      · cases e1
        obtain ⟨c, vs, h2, h3, h4⟩ := RepX.lst rx
        exact ⟨c, vs, h2, .inl h3, h4⟩
      · cases e1
        obtain ⟨c, vs, h2, h3, h4⟩ := RepX.tup rx
        exact ⟨c, vs, h2, .inr h3, h4⟩
      · cases e1
    obtain ⟨ks, rfl, ek, st⟩ := stands_all rp e2 fun d m => ⟨(b1 d m).1, (b1 d m).2.1⟩
    have dp : ∀ d ∈ ps, d.depth ≤ 8 := fun d m => (b1 d m).2.2
    have num : ks.length < 64 := by
      have z := congrArg List.length ek
      rw [List.length_map, List.length_map] at z
      omega
    refine ⟨c, ks, rfl, hs, fun p m => (st p m).keyD dp, num, fun b L nb has nd => ?_⟩
    have sub : ∀ p ∈ L, p.2.data ∈ ps := fun p m => (st p (has.sub p m)).mem
    have st2 : ∀ p ∈ ks, Stands pn X.K (upd H1 b (NSO X.w b L)) ps p := fun p m => (st p m).gr (Gr.new nb)
    have g2 := g1.new (o := NSO X.w b L) nb
    refine ⟨b, L, rfl, upd_same, fun p m => (st2 p (has.sub p m)).keyD dp, fun d m d' m' => ?_, ?_, fun L' q' pm nq => ?_⟩
    · obtain ⟨p, mp, rfl⟩ := List.mem_map.mp m
      obtain ⟨p', mp', rfl⟩ := List.mem_map.mp m'
      exact b2 _ (sub p mp) _ (sub p' mp')
    · rcases b3 with z | z
      · exact .inl fun d m => by
          obtain ⟨p, mp, rfl⟩ := List.mem_map.mp m
          exact z _ (sub p mp)
      · exact .inr fun d m => by
          obtain ⟨p, mp, rfl⟩ := List.mem_map.mp m
          exact z _ (sub p mp)
    · have me := list_meant st ek has nd pm b2
      have rp2 := reps_of (M := L'.mergeSort (PySem.W.dataLe false fun p => p.2.data)) fun p m => st2 p (has.sub p (pm.mem_iff.mp ((List.mergeSort_perm _ _).mem_iff.mp m)))
      rw [me] at rp2
      obtain ⟨a1, a2, a3⟩ := lay_lst g2.pen nq rp2
      exact q _ _ _ n1 (g2.xt a1 a2) ((x1.trans (Xt.new nb)).trans a1) (RK.back (k := .f) a3 (x1.trans (Xt.new nb)) g2.pen) hq⟩
end
end VS

set_option Elab.async false
set_option linter.all false
set_option maxRecDepth 100000
set_option maxHeartbeats 4000000
namespace VD
open PySem L2
theorem lx0 {p : Prop} (h : p) : ([] : List D).length ≤ 100000 ∧ p := ⟨of_decide_eq_true rfl, h⟩
theorem lx1 {x0 : D} {p : Prop} (h : p) : [x0].length ≤ 100000 ∧ p := ⟨of_decide_eq_true rfl, h⟩
theorem lx2 {x0 x1 : D} {p : Prop} (h : p) : [x0, x1].length ≤ 100000 ∧ p := ⟨of_decide_eq_true rfl, h⟩
theorem lx3 {x0 x1 x2 : D} {p : Prop} (h : p) : [x0, x1, x2].length ≤ 100000 ∧ p := ⟨of_decide_eq_true rfl, h⟩
theorem lx4 {x0 x1 x2 x3 : D} {p : Prop} (h : p) : [x0, x1, x2, x3].length ≤ 100000 ∧ p := ⟨of_decide_eq_true rfl, h⟩
theorem lx5 {x0 x1 x2 x3 x4 : D} {p : Prop} (h : p) : [x0, x1, x2, x3, x4].length ≤ 100000 ∧ p := ⟨of_decide_eq_true rfl, h⟩
theorem lx6 {x0 x1 x2 x3 x4 x5 : D} {p : Prop} (h : p) : [x0, x1, x2, x3, x4, x5].length ≤ 100000 ∧ p := ⟨of_decide_eq_true rfl, h⟩
theorem lx7 {x0 x1 x2 x3 x4 x5 x6 : D} {p : Prop} (h : p) : [x0, x1, x2, x3, x4, x5, x6].length ≤ 100000 ∧ p := ⟨of_decide_eq_true rfl, h⟩
theorem lx8 {x0 x1 x2 x3 x4 x5 x6 x7 : D} {p : Prop} (h : p) : [x0, x1, x2, x3, x4, x5, x6, x7].length ≤ 100000 ∧ p := ⟨of_decide_eq_true rfl, h⟩
theorem lx9 {x0 x1 x2 x3 x4 x5 x6 x7 x8 : D} {p : Prop} (h : p) : [x0, x1, x2, x3, x4, x5, x6, x7, x8].length ≤ 100000 ∧ p := ⟨of_decide_eq_true rfl, h⟩
theorem lx10 {x0 x1 x2 x3 x4 x5 x6 x7 x8 x9 : D} {p : Prop} (h : p) : [x0, x1, x2, x3, x4, x5, x6, x7, x8, x9].length ≤ 100000 ∧ p := ⟨of_decide_eq_true rfl, h⟩
theorem lx11 {x0 x1 x2 x3 x4 x5 x6 x7 x8 x9 x10 : D} {p : Prop} (h : p) : [x0, x1, x2, x3, x4, x5, x6, x7, x8, x9, x10].length ≤ 100000 ∧ p := ⟨of_decide_eq_true rfl, h⟩
theorem lx12 {x0 x1 x2 x3 x4 x5 x6 x7 x8 x9 x10 x11 : D} {p : Prop} (h : p) : [x0, x1, x2, x3, x4, x5, x6, x7, x8, x9, x10, x11].length ≤ 100000 ∧ p := ⟨of_decide_eq_true rfl, h⟩
theorem lx13 {x0 x1 x2 x3 x4 x5 x6 x7 x8 x9 x10 x11 x12 : D} {p : Prop} (h : p) : [x0, x1, x2, x3, x4, x5, x6, x7, x8, x9, x10, x11, x12].length ≤ 100000 ∧ p := ⟨of_decide_eq_true rfl, h⟩
theorem lx14 {x0 x1 x2 x3 x4 x5 x6 x7 x8 x9 x10 x11 x12 x13 : D} {p : Prop} (h : p) : [x0, x1, x2, x3, x4, x5, x6, x7, x8, x9, x10, x11, x12, x13].length ≤ 100000 ∧ p := ⟨of_decide_eq_true rfl, h⟩
theorem lx15 {x0 x1 x2 x3 x4 x5 x6 x7 x8 x9 x10 x11 x12 x13 x14 : D} {p : Prop} (h : p) : [x0, x1, x2, x3, x4, x5, x6, x7, x8, x9, x10, x11, x12, x13, x14].length ≤ 100000 ∧ p := ⟨of_decide_eq_true rfl, h⟩
theorem lx16 {x0 x1 x2 x3 x4 x5 x6 x7 x8 x9 x10 x11 x12 x13 x14 x15 : D} {p : Prop} (h : p) : [x0, x1, x2, x3, x4, x5, x6, x7, x8, x9, x10, x11, x12, x13, x14, x15].length ≤ 100000 ∧ p := ⟨of_decide_eq_true rfl, h⟩
/-! ### a comprehension of two fors -/
section
variable {ti ti1 : TID} {vs vs1 : List Nat} {g g1 : GD} {c c1 : TTD} {te : TD} {e e0 : En} {n : Nat} {Q : DK}
theorem s_lc2 : dLc2 ti vs g c ti1 vs1 g1 c1 te e n Q ↔ ti e n fun l m => dLcO g c ti1 vs1 g1 c1 te (wipeE e vs) l [] m Q := ⟨fun h => h, fun h => h⟩
theorem lcO_ind (J : List D → List D → Nat → Prop) (h0 : ∀ acc m, J [] acc m → Q (.lst acc) m)
    (h1 : ∀ x xs acc m (R : List D → Nat → Prop), J (x :: xs) acc m → (∀ acc' m', J xs acc' m' → R acc' m') → opt (g x e0) fun e' => c e' m fun b m1 => if b = true then ti1 e' m1 fun l1 m2 => dLcI g1 c1 te (wipeE e' vs1) l1 acc m2 R else R acc m1) :
    ∀ xs acc m, J xs acc m → dLcO g c ti1 vs1 g1 c1 te e0 xs acc m Q
  | [], acc, m, j => h0 acc m j
  | x :: xs, acc, m, j => h1 x xs acc m (fun acc m => dLcO g c ti1 vs1 g1 c1 te e0 xs acc m Q) j fun acc' m' j' => lcO_ind J h0 h1 xs acc' m' j'
theorem lcI_map {ι : Type} (a b : ι → D) {m : Nat} {K : List D → Nat → Prop} : ∀ (l : List ι) (acc : List D), acc.length + l.length ≤ 100000 → (∀ i ∈ l, ∀ (R : DK) (S : Nat → Prop), R (b i) m → opt (g1 (a i) e0) fun e' => c1 e' m fun q m1 => if q = true then te e' m1 R else S m1) → K (acc ++ l.map b) m → dLcI g1 c1 te e0 (l.map a) acc m K
  | [], acc, _, _, q => by
    rw [List.map_nil, List.append_nil] at q
    exact q
  | i :: l, acc, hl, h, q => h i List.mem_cons_self (fun y m2 => acc.length < 100000 ∧ dLcI g1 c1 te e0 (l.map a) (acc ++ [y]) m2 K) _ ⟨by rw [List.length_cons] at hl; omega, lcI_map a b l (acc ++ [b i]) (by rw [List.length_append, List.length_singleton]; rw [List.length_cons] at hl; omega) (fun j hj => h j (List.mem_cons_of_mem _ hj)) (by
      rw [List.map_cons] at q
      rw [List.append_assoc]
      exact q)⟩
end
end VD

set_option Elab.async false
set_option linter.all false
set_option maxRecDepth 100000
set_option maxHeartbeats 4000000
namespace Pl
open PySem L2 VD PenM
def b_is_int : EK → TSD := fun E => (dRet (dAnd (d1 (fIsi "int") (dVar 0)) (dNot (d1 (fIsi "bool") (dVar 0)))))
def b_is_pair : EK → TSD := fun E => (dRet (dAnd (d1 (fIsi "tuple") (dVar 0)) (d2 fEq (d1 fLen (dVar 0)) (dC (.int 2)))))
def b_is_below (t_is_int : TF) : EK → TSD := fun E => (dRet (dAnd (dCall 1 t_is_int E (dCons (dVar 0) dNil)) (dCh fLe fLt (dC (.int 0)) (dVar 0) (dVar 1))))
def b_are_sizes (t_is_below : TF) : EK → TSD := fun E => (dSeq (dIfS (dOrT (dNotT (dTr (d1 (fIsi "tuple") (dVar 0)))) (dNotT (dT (dCh fLe fLe (dC (.int 1)) (d1 fLen (dVar 0)) (dC (.int 4)))))) (dRet (dC (.bl false))) dNext) (dRet (dGen List.all [] (iT (dVar 0)) (dCall 2 t_is_below E (dCons (dVar 0) (dCons (d2 fAdd (dC (.int 6)) (dC (.int 1))) dNil))))))
def b_has_job (t_is_pair : TF) (t_is_below : TF) : EK → TSD := fun E => (dSeq (dIfS (dOrT (dNotT (dTr (dCall 1 t_is_pair E (dCons (dVar 1) dNil)))) (dNotT (dTr (dCall 2 t_is_below E (dCons (d2 fIxT (dVar 1) (dC (.int 0))) (dCons (d1 fLen (dVar 0)) dNil)))))) (dRet (dC (.bl false))) dNext) (dRet (dCall 2 t_is_below E (dCons (d2 fIxT (dVar 1) (dC (.int 1))) (dCons (d2 fIxT (dVar 0) (d2 fIxT (dVar 1) (dC (.int 0)))) dNil)))))
def b_can_wait (t_is_pair : TF) (t_has_job : TF) : EK → TSD := fun E => (dSeq (dIfS (dOrT (dNotT (dTr (dCall 1 t_is_pair E (dCons (dVar 1) dNil)))) (dOrT (dNotT (dTr (dCall 2 t_has_job E (dCons (dVar 0) (dCons (d2 fIxT (dVar 1) (dC (.int 0))) dNil))))) (dNotT (dTr (dCall 2 t_has_job E (dCons (dVar 0) (dCons (d2 fIxT (dVar 1) (dC (.int 1))) dNil))))))) (dRet (dC (.bl false))) dNext) (dRet (d2 fNe (d2 fIxT (d2 fIxT (dVar 1) (dC (.int 0))) (dC (.int 0))) (d2 fIxT (d2 fIxT (dVar 1) (dC (.int 1))) (dC (.int 0))))))
def b_are_waits (t_can_wait : TF) : EK → TSD := fun E => (dSeq (dIfS (dOrT (dNotT (dTr (d1 (fIsi "tuple") (dVar 1)))) (dT (d2 fGt (d1 fLen (dVar 1)) (dC (.int 24))))) (dRet (dC (.bl false))) dNext) (dSeq (dIfS (dNotT (dTr (dGen List.all [("sizes", 0)] (iT (dVar 1)) (dCall 2 t_can_wait E (dCons (dVar 1) (dCons (dVar 0) dNil)))))) (dRet (dC (.bl false))) dNext) (dRet (d1 fAllL (dLc (iZp (dVar 1) (dSl fSlT (dVar 1) (dPt (dC (.int 1))) dNo)) [2, 3] (gTp (gCn (gNm 2) (gCn (gNm 3) gNl))) dYes (d2 fLtX (dVar 2) (dVar 3)))))))
def b_is_plan (t_is_pair : TF) (t_are_sizes : TF) (t_are_waits : TF) : EK → TSD := fun E => (dRet (dAnd (dCall 1 t_is_pair E (dCons (dVar 0) dNil)) (dAnd (dCall 1 t_are_sizes E (dCons (d2 fIxT (dVar 0) (dC (.int 0))) dNil)) (dCall 2 t_are_waits E (dCons (d2 fIxT (dVar 0) (dC (.int 0))) (dCons (d2 fIxT (dVar 0) (dC (.int 1))) dNil))))))
def b_check_plan (C_InvalidPlan : Addr) (t_is_plan : TF) : EK → TSD := fun E => (dIfS (dNotT (dTr (dCall 1 t_is_plan E (dCons (dVar 0) dNil)))) (dRaise C_InvalidPlan E) dNext)
def b_mirrored_job : EK → TSD := fun E => (dSeq (dAsg (gTp (gCn (gNm 2) (gCn (gNm 3) gNl))) (dVar 1)) (dRet (dTup (dCons (dVar 2) (dCons (d2 fSub (d2 fSub (d2 fIxT (dVar 0) (dVar 2)) (dC (.int 1))) (dVar 3)) dNil)))))
def b_mirrored (t_check_plan : TF) (t_mirrored_job : TF) : EK → TSD := fun E => (dSeq (dDrop (dCall 1 t_check_plan E (dCons (dVar 0) dNil))) (dSeq (dAsg (gTp (gCn (gNm 1) (gCn (gNm 2) gNl))) (dVar 0)) (dSeq (dSetO 3 (dLc (iT (dVar 2)) [4, 5] (gTp (gCn (gNm 4) (gCn (gNm 5) gNl))) dYes (dTup (dCons (dCall 2 t_mirrored_job E (dCons (dVar 1) (dCons (dVar 5) dNil))) (dCons (dCall 2 t_mirrored_job E (dCons (dVar 1) (dCons (dVar 4) dNil))) dNil))))) (dFrz 3 (dRet (dTup (dCons (dVar 1) (dCons (d1 fToT (d1 fSorted (dVar 3))) dNil))))))))
def b_moved_job : EK → TSD := fun E => (dRet (dTup (dCons (d2 fAdd (d2 fIxT (dVar 1) (dC (.int 0))) (dVar 0)) (dCons (d2 fIxT (dVar 1) (dC (.int 1))) dNil))))
def b_side_by_side (C_TooMany : Addr) (t_check_plan : TF) (t_moved_job : TF) : EK → TSD := fun E => (dSeq (dDrop (dCall 1 t_check_plan E (dCons (dVar 0) dNil))) (dSeq (dDrop (dCall 1 t_check_plan E (dCons (dVar 1) dNil))) (dSeq (dIfS (dOrT (dT (d2 fGt (d2 fAdd (d1 fLen (d2 fIxT (dVar 0) (dC (.int 0)))) (d1 fLen (d2 fIxT (dVar 1) (dC (.int 0))))) (dC (.int 4)))) (dT (d2 fGt (d2 fAdd (d1 fLen (d2 fIxT (dVar 0) (dC (.int 1)))) (d1 fLen (d2 fIxT (dVar 1) (dC (.int 1))))) (dC (.int 24))))) (dRaise C_TooMany E) dNext) (dSeq (dSet 2 (d1 fLen (d2 fIxT (dVar 0) (dC (.int 0))))) (dSeq (dSetO 3 (dLc (iT (d2 fIxT (dVar 1) (dC (.int 1)))) [4, 5] (gTp (gCn (gNm 4) (gCn (gNm 5) gNl))) dYes (dTup (dCons (dCall 2 t_moved_job E (dCons (dVar 2) (dCons (dVar 4) dNil))) (dCons (dCall 2 t_moved_job E (dCons (dVar 2) (dCons (dVar 5) dNil))) dNil))))) (dFrz 3 (dRet (dTup (dCons (d2 fCatT (d2 fIxT (dVar 0) (dC (.int 0))) (d2 fIxT (dVar 1) (dC (.int 0)))) (dCons (d2 fCatT (d2 fIxT (dVar 0) (dC (.int 1))) (d1 fToT (dVar 3))) dNil))))))))))
end Pl

set_option Elab.async false
set_option linter.all false
set_option maxRecDepth 100000
set_option maxHeartbeats 4000000
namespace Pl
open PySem L2 VD PenM
local macro_rules | `(tactic| fail) => `(tactic| with_reducible first | refine s_next.mpr ?_ | refine s_seq.mpr ?_ | refine s_ifS.mpr ?_ | refine s_if.mpr ?_ | refine s_ret.mpr ?_ | refine s_T.mpr ?_ | refine s_Tr.mpr ?_ | refine s_notT.mpr ?_ | refine s_andT.mpr ?_ | refine s_orT.mpr ?_ | refine s_and.mpr ?_ | refine s_or.mpr ?_ | refine s_not.mpr ?_ | refine s_set.mpr ?_ | refine s_setO.mpr ?_ | refine s_2.mpr ?_ | refine s_1.mpr ?_ | refine s_C.mpr ?_ | refine var_at rfl ?_ | refine own_at rfl ?_ | refine s_cons.mpr ?_ | refine s_nil.mpr ?_ | refine s_call.mpr ?_ | refine s_callE.mpr ?_ | refine arg1 ?_ | refine arg2 ?_ | refine arg3 ?_ | refine arg4 ?_ | refine s_tup.mpr ?_ | refine s_lst.mpr ?_ | refine s_mt.mpr ?_ | refine s_ch.mpr ?_ | refine s_asg.mpr ?_ | refine s_par.mpr ?_ | refine s_drop.mpr ?_ | refine s_raise.mpr ?_ | refine s_iL.mpr ?_ | refine s_iT.mpr ?_ | refine s_iEL.mpr ?_ | refine s_iET.mpr ?_ | refine s_iR1.mpr ?_ | refine s_iR2.mpr ?_ | refine s_iZp.mpr ?_ | refine s_lc.mpr ?_ | refine s_for.mpr ?_ | refine s_gen.mpr ?_ | refine s_sl.mpr ?_ | refine s_no.mpr ?_ | refine s_pt.mpr ?_ | refine s_yes.mpr ?_ | refine app_at rfl ?_ | refine ext_at rfl ?_ | refine frz_at rfl ?_ | refine ev_asB.mpr ?_ | refine ev_truB ?_ | refine ev_asL.mpr ?_ | refine ev_asTp.mpr ?_ | refine ev_asI.mpr ?_ | refine ev_add.mpr ?_ | refine ev_sub.mpr ?_ | refine ev_neg.mpr ?_ | refine ev_le.mpr ?_ | refine ev_lt.mpr ?_ | refine ev_ge.mpr ?_ | refine ev_gt.mpr ?_ | refine ev_eqI.mpr ?_ | refine ev_neI.mpr ?_ | refine ev_lenT.mpr ?_ | refine ev_lenL.mpr ?_ | refine ev_toT.mpr ?_ | refine ev_toLT.mpr ?_ | refine ev_toL.mpr ?_ | refine ev_isN.mpr ?_ | refine ev_slT.mpr ?_ | refine ev_slLL.mpr ?_ | refine if_t ?_ | refine if_f ?_)
/-! ### what a plan is, of any data -/
def isIntD : D → Bool
  | .int _ => true
  | _ => false
def isPairD : D → Bool
  | .tup [_, _] => true
  | _ => false
def isBelowD (x : D) (m : Int) : Bool := match x with
  | .int i => decide (0 ≤ i) && decide (i < m)
  | _ => false
def isTupD : D → Bool
  | .tup _ => true
  | _ => false
/-- plain data -/
def Pln (x : D) : Prop := ∃ p, toP x = some p
theorem isi_int {x : D} (h : Pln x) : ∃ b, fIsi "int" x = some (.bl b) ∧ (b && !(match x with | .bl _ => true | _ => false)) = isIntD x := by
  obtain ⟨p, e⟩ := h
  cases x with
  | non => exact ⟨false, by kernel_rfl, rfl⟩
  | bl b => exact ⟨true, by kernel_rfl, rfl⟩
  | int i => exact ⟨true, by kernel_rfl, rfl⟩
  | str s => exact ⟨false, by kernel_rfl, rfl⟩
  | tup l => exact ⟨false, by kernel_rfl, rfl⟩
  | lst l => exact ⟨false, by kernel_rfl, rfl⟩
  | _ => cases e
theorem isi_bool {x : D} (h : Pln x) : fIsi "bool" x = some (.bl (match x with | .bl _ => true | _ => false)) := by
  obtain ⟨p, e⟩ := h
  cases x with
  | non => kernel_rfl
  | bl b => kernel_rfl
  | int i => kernel_rfl
  | str s => kernel_rfl
  | tup l => kernel_rfl
  | lst l => kernel_rfl
  | _ => cases e
theorem isi_tup {x : D} (h : Pln x) : fIsi "tuple" x = some (.bl (isTupD x)) := by
  obtain ⟨p, e⟩ := h
  cases x with
  | non => kernel_rfl
  | bl b => kernel_rfl
  | int i => kernel_rfl
  | str s => kernel_rfl
  | tup l => kernel_rfl
  | lst l => kernel_rfl
  | _ => cases e
def tfIsInt : TF := fun l n Q _ => ∃ x, l = [x] ∧ Pln x ∧ Q (.bl (isIntD x)) n
theorem is_int_ok : ∀ l n Q E, tfIsInt l n Q E → bodyTF 1 b_is_int l n Q E := by
  intro l n Q E ⟨x, e, hp, q⟩
  subst e
  show b_is_int E ⟨fun _ m => Q .non m, Q, fun _ _ => False, fun _ _ => False⟩ [some (.d x)] n
  unfold b_is_int
  obtain ⟨b, e1, e2⟩ := isi_int hp
  repeat' fail
  refine opt_of e1 (ev_asB.mpr ?_)
  rw [← e2] at q
  cases b with
  | false => exact if_f q
  | true =>
    refine if_t ?_
    repeat' fail
    exact opt_of (isi_bool hp) (ev_asB.mpr q)
def tfIsPair : TF := fun l n Q _ => ∃ x, l = [x] ∧ Pln x ∧ Q (.bl (isPairD x)) n
theorem is_pair_ok : ∀ l n Q E, tfIsPair l n Q E → bodyTF 1 b_is_pair l n Q E := by
  intro l n Q E ⟨x, e, hp, q⟩
  subst e
  show b_is_pair E ⟨fun _ m => Q .non m, Q, fun _ _ => False, fun _ _ => False⟩ [some (.d x)] n
  unfold b_is_pair
  repeat' fail
  refine opt_of (isi_tup hp) (ev_asB.mpr ?_)
  cases x with
  | tup l =>
    refine if_t ?_
    repeat' fail
    have e : ((l.length : Int) == 2) = isPairD (.tup l) := by
      match l with
      | [] => rfl
      | [_] => rfl
      | [_, _] => rfl
      | _ :: _ :: _ :: l =>
        show (((l.length + 1 + 1 + 1 : Nat) : Int) == 2) = false
        rw [beq_eq_false_iff_ne]
        omega
    rw [e]
    exact q
  | _ => exact if_f q
def tfIsBelow : TF := fun l n Q _ => ∃ (x : D) (m : Int), l = [x, .int m] ∧ Pln x ∧ Q (.bl (isBelowD x m)) n
theorem is_below_ok : ∀ l n Q E, tfIsBelow l n Q E → bodyTF 2 (b_is_below tfIsInt) l n Q E := by
  intro l n Q E ⟨x, m, e, hp, q⟩
  subst e
  show b_is_below tfIsInt E ⟨fun _ m => Q .non m, Q, fun _ _ => False, fun _ _ => False⟩ [some (.d x), some (.d (.int m))] n
  unfold b_is_below
  repeat' fail
  refine ⟨x, rfl, hp, ev_asB.mpr ?_⟩
  cases x with
  | int i =>
    refine if_t ?_
    repeat' fail
    change Q (.bl (decide (0 ≤ i) && decide (i < m))) n at q
    by_cases c : 0 ≤ i
    · rw [decide_eq_true c] at q ⊢
      exact if_t (by repeat' fail; exact q)
    · rw [decide_eq_false c] at q ⊢
      exact if_f q
  | _ => exact if_f q
/-! ### sizes, jobs, waits -/
theorem pln_of {l : List D} {ps : List PyData} (h : toPs l = some ps) : ∀ y ∈ l, Pln y := fun y hy => ⟨_, (toPs_map h).2 y hy⟩
theorem pln_tup {l : List D} (h : Pln (.tup l)) : ∀ y ∈ l, Pln y := by
  obtain ⟨p, e⟩ := h
  have e : (toPs l).map PyData.tuple = some p := e
  obtain ⟨ps, e2, _⟩ := Option.map_eq_some_iff.mp e
  exact pln_of e2
theorem toPs_all : ∀ {l : List D}, (∀ y ∈ l, Pln y) → ∃ ps, toPs l = some ps
  | [], _ => ⟨[], rfl⟩
  | y :: l, h => by
    obtain ⟨p, e⟩ := h y List.mem_cons_self
    obtain ⟨ps, e2⟩ := toPs_all (l := l) fun z hz => h z (List.mem_cons_of_mem _ hz)
    refine ⟨p :: ps, ?_⟩
    unfold toPs
    rw [e, e2]
theorem pln_mk {l : List D} (h : ∀ y ∈ l, Pln y) : Pln (.tup l) := let ⟨ps, e⟩ := toPs_all h; ⟨_, toP_tup e⟩
theorem pln_mkL {l : List D} (h : ∀ y ∈ l, Pln y) : Pln (.lst l) := let ⟨ps, e⟩ := toPs_all h; ⟨_, toP_lst e⟩
theorem pln_int (i : Int) : Pln (.int i) := ⟨_, rfl⟩
def areSizesD : D → Bool
  | .tup l => decide (1 ≤ (l.length : Int)) && decide ((l.length : Int) ≤ 4) && l.all fun x => isBelowD x 7
  | _ => false
def tfAreSizes : TF := fun l n Q _ => ∃ x, l = [x] ∧ Pln x ∧ Q (.bl (areSizesD x)) n
theorem are_sizes_ok : ∀ l n Q E, tfAreSizes l n Q E → bodyTF 1 (b_are_sizes tfIsBelow) l n Q E := by
  intro l n Q E ⟨x, e, hp, q⟩
  subst e
  show b_are_sizes tfIsBelow E ⟨fun _ m => Q .non m, Q, fun _ _ => False, fun _ _ => False⟩ [some (.d x)] n
  unfold b_are_sizes
  repeat' fail
  refine opt_of (isi_tup hp) (ev_truB ?_)
  cases x with
  | tup l =>
    refine if_f ?_
    repeat' fail
    change Q (.bl (decide (1 ≤ (l.length : Int)) && decide ((l.length : Int) ≤ 4) && l.all fun x => isBelowD x 7)) n at q
    by_cases c : 1 ≤ (l.length : Int)
    · rw [decide_eq_true c] at q ⊢
      refine if_t ?_
      repeat' fail
      by_cases c2 : (l.length : Int) ≤ 4
      · rw [decide_eq_true c2] at q ⊢
        refine if_f ?_
        repeat' fail
        refine ⟨fun x => isBelowD x 7, fun y hy => ?_, q⟩
        show dCall 2 tfIsBelow E _ [some (.d y)] n _
        repeat' fail
        exact ⟨y, 7, rfl, pln_tup hp y hy, rfl, rfl⟩
      · rw [decide_eq_false c2] at q ⊢
        refine if_t ?_
        repeat' fail
        exact q
    · rw [decide_eq_false c] at q ⊢
      refine if_f ?_
      repeat' fail
      exact q
  | _ =>
    refine if_t ?_
    repeat' fail
    exact q
/-- sizes as numbers -/
def dInts (s : List Int) : D := .tup (s.map .int)
def hasJobD (s : List Int) : D → Bool
  | .tup [.int a, b] => isBelowD (.int a) s.length && isBelowD b (s.getD a.toNat 0)
  | _ => false
def tfHasJob : TF := fun l n Q _ => ∃ (s : List Int) (x : D), l = [dInts s, x] ∧ Pln x ∧ Q (.bl (hasJobD s x)) n
theorem has_job_ok : ∀ l n Q E, tfHasJob l n Q E → bodyTF 2 (b_has_job tfIsPair tfIsBelow) l n Q E := by
  intro l n Q E ⟨s, x, e, hp, q⟩
  subst e
  show b_has_job tfIsPair tfIsBelow E ⟨fun _ m => Q .non m, Q, fun _ _ => False, fun _ _ => False⟩ [some (.d (dInts s)), some (.d x)] n
  unfold b_has_job
  repeat' fail
  refine ⟨x, rfl, hp, ev_truB ?_⟩
  cases hc : isPairD x with
  | false =>
    refine if_t ?_
    repeat' fail
    have : hasJobD s x = false := by
      unfold hasJobD
      split
      · cases hc
      · rfl
    rw [← this]
    exact q
  | true =>
    obtain ⟨a, b, rfl⟩ : ∃ a b, x = .tup [a, b] := by
      cases x with
      | tup l =>
        match l, hc with
        | [a, b], _ => exact ⟨a, b, rfl⟩
      | _ => cases hc
    have pa : Pln a := pln_tup hp a List.mem_cons_self
    have pb : Pln b := pln_tup hp b (List.mem_cons_of_mem _ List.mem_cons_self)
    refine if_f ?_
    repeat' fail
    refine ev_ixT.mpr (opt_of (x := a) rfl ?_)
    repeat' fail
    unfold dInts
    refine ev_lenT.mpr ?_
    repeat' fail
    rw [List.length_map]
    refine ⟨a, (s.length : Int), rfl, pa, ev_truB ?_⟩
    cases ha : isBelowD a s.length with
    | false =>
      refine if_t ?_
      repeat' fail
      have : hasJobD s (.tup [a, b]) = false := by
        cases a with
        | int i =>
          show (isBelowD (.int i) s.length && _) = false
          rw [ha]
          rfl
        | _ => rfl
      rw [← this]
      exact q
    | true =>
      refine if_f ?_
      cases a with
      | int i =>
        have hi : 0 ≤ i ∧ i < s.length := by
          have z : (decide (0 ≤ i) && decide (i < s.length)) = true := ha
          simpa using z
        repeat' fail
        refine ev_ixT.mpr (opt_of (x := b) rfl ?_)
        repeat' fail
        refine ev_ixT.mpr (opt_of (x := .int i) rfl ?_)
        refine ev_ixT.mpr ?_
        rw [atI_nn hi.1, List.getElem?_map, List.getElem?_eq_getElem (by omega : i.toNat < s.length)]
        refine ev_some.mpr ?_
        repeat' fail
        refine ⟨b, _, rfl, pb, ?_⟩
        have e : hasJobD s (.tup [.int i, b]) = isBelowD b s[i.toNat] := by
          show (isBelowD (.int i) s.length && isBelowD b (s.getD i.toNat 0)) = _
          rw [ha, Bool.true_and, List.getD_eq_getElem?_getD, List.getElem?_eq_getElem (by omega : i.toNat < s.length)]
          rfl
        rw [← e]
        exact q
      | _ => cases ha
abbrev Job := Int × Int
abbrev Wait := Job × Job
def dJob (j : Job) : D := .tup [.int j.1, .int j.2]
def dWait (w : Wait) : D := .tup [dJob w.1, dJob w.2]
/-- the job's numbers, where it is one -/
def jobOf (s : List Int) (j : Job) : Prop := 0 ≤ j.1 ∧ j.1 < s.length ∧ 0 ≤ j.2 ∧ j.2 < s.getD j.1.toNat 0
theorem hasJobD_iff {s : List Int} {x : D} : hasJobD s x = true ↔ ∃ j, x = dJob j ∧ jobOf s j := by
  constructor
  · intro h
    unfold hasJobD at h
    split at h
    · rename_i a b
      obtain ⟨h1, h2⟩ := Bool.and_eq_true_iff.mp h
      have h1 : (decide (0 ≤ a) && decide (a < s.length)) = true := h1
      cases b with
      | int b =>
        have h2 : (decide (0 ≤ b) && decide (b < s.getD a.toNat 0)) = true := h2
        rw [Bool.and_eq_true, decide_eq_true_eq, decide_eq_true_eq] at h1 h2
        exact ⟨(a, b), rfl, h1.1, h1.2, h2.1, h2.2⟩
      | _ => cases h2
    · cases h
  · rintro ⟨j, rfl, h1, h2, h3, h4⟩
    show ((decide (0 ≤ j.1) && decide (j.1 < s.length)) && (decide (0 ≤ j.2) && decide (j.2 < s.getD j.1.toNat 0))) = true
    rw [decide_eq_true h1, decide_eq_true h2, decide_eq_true h3, decide_eq_true h4]
    rfl
def queueD : D → Option Int
  | .tup (.int a :: _) => some a
  | _ => none
def canWaitD (s : List Int) : D → Bool
  | .tup [a, b] => hasJobD s a && (hasJobD s b && !(queueD a == queueD b))
  | _ => false
def waitOf (s : List Int) (w : Wait) : Prop := jobOf s w.1 ∧ jobOf s w.2 ∧ w.1.1 ≠ w.2.1
theorem canWaitD_iff {s : List Int} {x : D} : canWaitD s x = true ↔ ∃ w, x = dWait w ∧ waitOf s w := by
  constructor
  · intro h
    unfold canWaitD at h
    split at h
    · rename_i a b
      obtain ⟨h1, h⟩ := Bool.and_eq_true_iff.mp h
      obtain ⟨h2, h3⟩ := Bool.and_eq_true_iff.mp h
      obtain ⟨j, rfl, hj⟩ := hasJobD_iff.mp h1
      obtain ⟨k, rfl, hk⟩ := hasJobD_iff.mp h2
      refine ⟨(j, k), rfl, hj, hk, fun e => ?_⟩
      have h3 : (!(some j.1 == some k.1)) = true := h3
      rw [e] at h3
      simp at h3
    · cases h
  · rintro ⟨w, rfl, h1, h2, h3⟩
    show (hasJobD s (dJob w.1) && (hasJobD s (dJob w.2) && !(some w.1.1 == some w.2.1))) = true
    rw [hasJobD_iff.mpr ⟨_, rfl, h1⟩, hasJobD_iff.mpr ⟨_, rfl, h2⟩]
    simpa using h3
def tfCanWait : TF := fun l n Q _ => ∃ (s : List Int) (x : D), l = [dInts s, x] ∧ Pln x ∧ Q (.bl (canWaitD s x)) n
theorem can_wait_ok : ∀ l n Q E, tfCanWait l n Q E → bodyTF 2 (b_can_wait tfIsPair tfHasJob) l n Q E := by
  intro l n Q E ⟨s, x, e, hp, q⟩
  subst e
  show b_can_wait tfIsPair tfHasJob E ⟨fun _ m => Q .non m, Q, fun _ _ => False, fun _ _ => False⟩ [some (.d (dInts s)), some (.d x)] n
  unfold b_can_wait
  repeat' fail
  refine ⟨x, rfl, hp, ev_truB ?_⟩
  cases hc : isPairD x with
  | false =>
    refine if_t ?_
    repeat' fail
    have : canWaitD s x = false := by
      unfold canWaitD
      split
      · cases hc
      · rfl
    rw [← this]
    exact q
  | true =>
    obtain ⟨a, b, rfl⟩ : ∃ a b, x = .tup [a, b] := by
      cases x with
      | tup l =>
        match l, hc with
        | [a, b], _ => exact ⟨a, b, rfl⟩
      | _ => cases hc
    have pa : Pln a := pln_tup hp a List.mem_cons_self
    have pb : Pln b := pln_tup hp b (List.mem_cons_of_mem _ List.mem_cons_self)
    have e0 : canWaitD s (.tup [a, b]) = (hasJobD s a && (hasJobD s b && !(queueD a == queueD b))) := rfl
    rw [e0] at q
    refine if_f ?_
    repeat' fail
    refine ev_ixT.mpr (opt_of (x := a) rfl ?_)
    repeat' fail
    refine ⟨s, a, rfl, pa, ev_truB ?_⟩
    cases h1 : hasJobD s a with
    | false =>
      refine if_t ?_
      repeat' fail
      rw [h1] at q
      exact q
    | true =>
      refine if_f ?_
      repeat' fail
      refine ev_ixT.mpr (opt_of (x := b) rfl ?_)
      repeat' fail
      refine ⟨s, b, rfl, pb, ev_truB ?_⟩
      cases h2 : hasJobD s b with
      | false =>
        refine if_t ?_
        repeat' fail
        rw [h1, h2] at q
        exact q
      | true =>
        refine if_f ?_
        obtain ⟨j, rfl, hj⟩ := hasJobD_iff.mp h1
        obtain ⟨k, rfl, hk⟩ := hasJobD_iff.mp h2
        rw [h1, h2] at q
        repeat' fail
        refine ev_ixT.mpr (opt_of (x := dJob j) rfl ?_)
        repeat' fail
        refine ev_ixT.mpr (opt_of (x := .int j.1) rfl ?_)
        repeat' fail
        refine ev_ixT.mpr (opt_of (x := dJob k) rfl ?_)
        repeat' fail
        refine ev_ixT.mpr (opt_of (x := .int k.1) rfl ?_)
        refine ev_neI.mpr ?_
        have e1 : (queueD (dJob j) == queueD (dJob k)) = (j.1 == k.1) := by
          show (some j.1 == some k.1) = _
          rfl
        rw [e1] at q
        exact q
end Pl

set_option Elab.async false
set_option linter.all false
set_option maxRecDepth 100000
set_option maxHeartbeats 4000000
namespace Pl
open PySem L2 VD PenM
local macro_rules | `(tactic| fail) => `(tactic| with_reducible first | refine s_next.mpr ?_ | refine s_seq.mpr ?_ | refine s_ifS.mpr ?_ | refine s_if.mpr ?_ | refine s_ret.mpr ?_ | refine s_T.mpr ?_ | refine s_Tr.mpr ?_ | refine s_notT.mpr ?_ | refine s_andT.mpr ?_ | refine s_orT.mpr ?_ | refine s_and.mpr ?_ | refine s_or.mpr ?_ | refine s_not.mpr ?_ | refine s_set.mpr ?_ | refine s_setO.mpr ?_ | refine s_2.mpr ?_ | refine s_1.mpr ?_ | refine s_C.mpr ?_ | refine var_at rfl ?_ | refine own_at rfl ?_ | refine s_cons.mpr ?_ | refine s_nil.mpr ?_ | refine s_call.mpr ?_ | refine s_callE.mpr ?_ | refine arg1 ?_ | refine arg2 ?_ | refine arg3 ?_ | refine arg4 ?_ | refine s_tup.mpr ?_ | refine s_lst.mpr ?_ | refine s_mt.mpr ?_ | refine s_ch.mpr ?_ | refine s_asg.mpr ?_ | refine s_par.mpr ?_ | refine s_drop.mpr ?_ | refine s_raise.mpr ?_ | refine s_iL.mpr ?_ | refine s_iT.mpr ?_ | refine s_iEL.mpr ?_ | refine s_iET.mpr ?_ | refine s_iR1.mpr ?_ | refine s_iR2.mpr ?_ | refine s_iZp.mpr ?_ | refine s_lc.mpr ?_ | refine s_for.mpr ?_ | refine s_gen.mpr ?_ | refine s_sl.mpr ?_ | refine s_no.mpr ?_ | refine s_pt.mpr ?_ | refine s_yes.mpr ?_ | refine app_at rfl ?_ | refine ext_at rfl ?_ | refine frz_at rfl ?_ | refine ev_asB.mpr ?_ | refine ev_truB ?_ | refine ev_asL.mpr ?_ | refine ev_asTp.mpr ?_ | refine ev_asI.mpr ?_ | refine ev_add.mpr ?_ | refine ev_sub.mpr ?_ | refine ev_neg.mpr ?_ | refine ev_le.mpr ?_ | refine ev_lt.mpr ?_ | refine ev_ge.mpr ?_ | refine ev_gt.mpr ?_ | refine ev_eqI.mpr ?_ | refine ev_neI.mpr ?_ | refine ev_lenT.mpr ?_ | refine ev_lenL.mpr ?_ | refine ev_toT.mpr ?_ | refine ev_toLT.mpr ?_ | refine ev_toL.mpr ?_ | refine ev_isN.mpr ?_ | refine ev_slT.mpr ?_ | refine ev_slLL.mpr ?_ | refine if_t ?_ | refine if_f ?_)
/-! ### the order of waits -/
def jlt (a b : Job) : Bool := decide (a.1 < b.1 ∨ (a.1 = b.1 ∧ a.2 < b.2))
def ltW (a b : Wait) : Bool := if a.1 = b.1 then jlt a.2 b.2 else jlt a.1 b.1
def pJob (j : Job) : PyData := .tuple [.int j.1, .int j.2]
def pWait (w : Wait) : PyData := .tuple [pJob w.1, pJob w.2]
theorem toP_job (j : Job) : toP (dJob j) = some (pJob j) := rfl
theorem toP_wait (w : Wait) : toP (dWait w) = some (pWait w) := rfl
theorem pln_job (j : Job) : Pln (dJob j) := ⟨_, rfl⟩
theorem pln_wait (w : Wait) : Pln (dWait w) := ⟨_, rfl⟩
theorem alike_job (a b : Job) : PySem.W.alike (pJob a) (pJob b) = true := by
  simp [pJob, PySem.W.alike, PySem.W.alikeAll]
theorem alike_wait (a b : Wait) : PySem.W.alike (pWait a) (pWait b) = true := by
  simp [pWait, PySem.W.alike, PySem.W.alikeAll, alike_job]
theorem eqv_job (a b : Job) : PyData.eqv (pJob a) (pJob b) = decide (a = b) := by
  unfold pJob
  rw [PyData.eqv, PyData.eqvAll, PyData.eqvAll, PyData.eqvAll, PyData.eqv, PyData.eqv]
  rw [Bool.and_true, Bool.eq_iff_iff, Bool.and_eq_true, beq_iff_eq, beq_iff_eq, decide_eq_true_eq, Prod.ext_iff]
theorem eqv_wait (a b : Wait) : PyData.eqv (pWait a) (pWait b) = decide (a = b) := by
  unfold pWait
  rw [PyData.eqv, PyData.eqvAll, PyData.eqvAll, PyData.eqvAll, eqv_job, eqv_job]
  rw [Bool.and_true, Bool.eq_iff_iff, Bool.and_eq_true, decide_eq_true_eq, decide_eq_true_eq, decide_eq_true_eq]
  exact ⟨fun h => Prod.ext h.1 h.2, fun h => by subst h; exact ⟨rfl, rfl⟩⟩
theorem lt_job (a b : Job) : PySem.W.dataLt (pJob a) (pJob b) = jlt a b := PySem.W.dataLt_ii _ _ _ _
theorem jlt_irr (a : Job) : jlt a a = false := decide_eq_false (by omega)
theorem lt_wait (a b : Wait) : PySem.W.dataLt (pWait a) (pWait b) = ltW a b := by
  unfold pWait ltW
  rw [PySem.W.dataLt_pair (alike_job _ _) (alike_job _ _), eqv_job, eqv_job, lt_job, lt_job]
  by_cases h : a.1 = b.1
  · rw [if_pos h, decide_eq_true h, if_pos rfl]
    by_cases h2 : a.2 = b.2
    · rw [decide_eq_true h2, if_pos rfl, h2, jlt_irr]
    · rw [decide_eq_false h2, if_neg Bool.false_ne_true]
  · rw [if_neg h, decide_eq_false h, if_neg Bool.false_ne_true]
theorem depth_wait (w : Wait) : (pWait w).depth = 2 := by
  simp [pWait, pJob, PyData.depth, PyData.depthAll]
theorem lt_waitX (a b : Wait) : fLtX (dWait a) (dWait b) = some (.bl (ltW a b)) := by
  unfold fLtX
  rw [toP_wait, toP_wait]
  refine (if_pos ?_).trans (by rw [lt_wait])
  rw [alike_wait, depth_wait]
  rfl
def ascW (ws : List Wait) : Bool := (ws.zip ws.tail).all fun p => ltW p.1 p.2
theorem cut_tail (l : List D) : cutD l (some 1) none = l.tail := by
  unfold cutD
  rw [show (some 1 : Option Int) = some ((1 : Nat) : Int) from rfl, HT.sIx_nat, HT.sIx_none, List.drop_one.symm]
  by_cases h : 1 ≤ l.length
  · rw [Nat.min_eq_left h, List.take_of_length_le (by rw [List.length_drop]; exact Nat.le_refl _)]
  · rw [List.drop_of_length_le (by omega), List.drop_of_length_le (by omega), List.take_nil]
theorem zip_waits (ws : List Wait) : zipD (ws.map dWait) (ws.map dWait).tail = (ws.zip ws.tail).map fun p => D.tup [dWait p.1, dWait p.2] := by
  unfold zipD
  rw [← List.map_tail, List.zipWith_map, List.zip, List.map_zipWith]
def dWaits (ws : List Wait) : D := .tup (ws.map dWait)
theorem all_waits {s : List Int} : ∀ {l : List D}, l.all (canWaitD s) = true → ∃ ws : List Wait, l = ws.map dWait ∧ ∀ w ∈ ws, waitOf s w
  | [], _ => ⟨[], rfl, fun _ h => nomatch h⟩
  | x :: l, h => by
    rw [List.all_cons, Bool.and_eq_true] at h
    obtain ⟨w, rfl, hw⟩ := canWaitD_iff.mp h.1
    obtain ⟨ws, rfl, hws⟩ := all_waits h.2
    refine ⟨w :: ws, rfl, fun v hv => ?_⟩
    rcases List.mem_cons.mp hv with rfl | hv
    · exact hw
    · exact hws v hv
theorem waits_all {s : List Int} {ws : List Wait} (h : ∀ w ∈ ws, waitOf s w) : (ws.map dWait).all (canWaitD s) = true := by
  rw [List.all_eq_true]
  intro x hx
  obtain ⟨w, hw, rfl⟩ := List.mem_map.mp hx
  exact canWaitD_iff.mpr ⟨w, rfl, h w hw⟩
/-- the waits of a plan with the sizes s -/
def WaitsOk (s : List Int) (ws : List Wait) : Prop := ws.length ≤ 24 ∧ (∀ w ∈ ws, waitOf s w) ∧ ascW ws = true
def tfAreWaits : TF := fun l n Q _ => ∃ (s : List Int) (x : D), l = [dInts s, x] ∧ Pln x ∧ ∀ b, (b = true ↔ ∃ ws, x = dWaits ws ∧ WaitsOk s ws) → Q (.bl b) n
theorem dJob_inj {a b : Job} (h : dJob a = dJob b) : a = b := by
  unfold dJob at h
  injection h with h
  injection h with h1 h
  injection h with h2 h
  injection h1 with h1
  injection h2 with h2
  exact Prod.ext h1 h2
theorem dWait_inj {a b : Wait} (h : dWait a = dWait b) : a = b := by
  unfold dWait at h
  injection h with h
  injection h with h1 h
  injection h with h2 h
  exact Prod.ext (dJob_inj h1) (dJob_inj h2)
theorem dWaits_inj {a b : List Wait} (h : dWaits a = dWaits b) : a = b := by
  unfold dWaits at h
  injection h with h
  exact (List.map_inj_right fun _ _ => dWait_inj).mp h
theorem are_waits_ok : ∀ l n Q E, tfAreWaits l n Q E → bodyTF 4 (b_are_waits tfCanWait) l n Q E := by
  intro l n Q E ⟨s, x, e, hp, q⟩
  subst e
  show b_are_waits tfCanWait E ⟨fun _ m => Q .non m, Q, fun _ _ => False, fun _ _ => False⟩ [some (.d (dInts s)), some (.d x), none, none] n
  unfold b_are_waits
  repeat' fail
  refine opt_of (isi_tup hp) (ev_truB ?_)
  cases x with
  | tup l =>
    refine if_f ?_
    repeat' fail
    by_cases c : 24 < (l.length : Int)
    · rw [decide_eq_true c]
      refine if_t ?_
      repeat' fail
      refine q false ⟨(fun z => nomatch z), fun ⟨ws, e, h, _⟩ => ?_⟩
      injection e with e
      rw [e, List.length_map] at c
      omega
    · rw [decide_eq_false c]
      refine if_f ?_
      repeat' fail
      refine ⟨canWaitD s, fun y hy => ?_, ev_truB ?_⟩
      · show dCall 2 tfCanWait E _ [some (.d y), some (.d (dInts s))] n _
        repeat' fail
        exact ⟨s, y, rfl, pln_tup hp y hy, rfl, rfl⟩
      · cases ha : l.all (canWaitD s) with
        | false =>
          refine if_t ?_
          repeat' fail
          refine q false ⟨(fun z => nomatch z), fun ⟨ws, e, _, h, _⟩ => ?_⟩
          injection e with e
          rw [e, waits_all h] at ha
          cases ha
        | true =>
          obtain ⟨ws, rfl, hw⟩ := all_waits ha
          refine if_f ?_
          repeat' fail
          rw [cut_tail]
          refine opt_of (x := (ws.map dWait, (ws.map dWait).tail)) rfl ?_
          rw [zip_waits]
          have l24 : ws.length ≤ 24 := by
            rw [List.length_map] at c
            omega
          refine ⟨by rw [List.length_map, List.length_zip]; omega, ?_⟩
          refine lc_map _ (fun p : Wait × Wait => .bl (ltW p.1 p.2)) _ [] (fun p hpm R S hR => ?_) ?_
          · refine opt_of rfl (s_yes.mpr (if_t (s_2.mpr (var_at rfl (var_at rfl (opt_of (lt_waitX _ _) hR))))))
          · have e : ([] ++ (ws.zip ws.tail).map fun p : Wait × Wait => D.bl (ltW p.1 p.2)) = ((ws.zip ws.tail).map fun p => ltW p.1 p.2).map D.bl := by
              rw [List.map_map]
              rfl
            rw [e]
            refine opt_of (x := .bl (ascW ws)) ?_ ?_
            · show (asBs _).map _ = _
              rw [asBs_map]
              show some (D.bl _) = some (D.bl _)
              rw [List.all_map]
              rfl
            · refine q _ ⟨fun z => ⟨ws, rfl, l24, hw, z⟩, fun ⟨vs, e, _, _, z⟩ => ?_⟩
              rw [dWaits_inj e]
              exact z
  | _ =>
    refine if_t ?_
    repeat' fail
    refine q false ⟨(fun z => nomatch z), fun ⟨ws, e, _⟩ => ?_⟩
    cases e
end Pl

set_option Elab.async false
set_option linter.all false
set_option maxRecDepth 100000
set_option maxHeartbeats 4000000
namespace Pl
open PySem L2 VD PenM
local macro_rules | `(tactic| fail) => `(tactic| with_reducible first | refine s_next.mpr ?_ | refine s_seq.mpr ?_ | refine s_ifS.mpr ?_ | refine s_if.mpr ?_ | refine s_ret.mpr ?_ | refine s_T.mpr ?_ | refine s_Tr.mpr ?_ | refine s_notT.mpr ?_ | refine s_andT.mpr ?_ | refine s_orT.mpr ?_ | refine s_and.mpr ?_ | refine s_or.mpr ?_ | refine s_not.mpr ?_ | refine s_set.mpr ?_ | refine s_setO.mpr ?_ | refine s_2.mpr ?_ | refine s_1.mpr ?_ | refine s_C.mpr ?_ | refine var_at rfl ?_ | refine own_at rfl ?_ | refine s_cons.mpr ?_ | refine s_nil.mpr ?_ | refine s_call.mpr ?_ | refine s_callE.mpr ?_ | refine arg1 ?_ | refine arg2 ?_ | refine arg3 ?_ | refine arg4 ?_ | refine s_tup.mpr ?_ | refine s_lst.mpr ?_ | refine s_mt.mpr ?_ | refine s_ch.mpr ?_ | refine s_asg.mpr ?_ | refine s_par.mpr ?_ | refine s_drop.mpr ?_ | refine s_raise.mpr ?_ | refine s_iL.mpr ?_ | refine s_iT.mpr ?_ | refine s_iEL.mpr ?_ | refine s_iET.mpr ?_ | refine s_iR1.mpr ?_ | refine s_iR2.mpr ?_ | refine s_iZp.mpr ?_ | refine s_lc.mpr ?_ | refine s_for.mpr ?_ | refine s_gen.mpr ?_ | refine s_sl.mpr ?_ | refine s_no.mpr ?_ | refine s_pt.mpr ?_ | refine s_yes.mpr ?_ | refine app_at rfl ?_ | refine ext_at rfl ?_ | refine frz_at rfl ?_ | refine ev_asB.mpr ?_ | refine ev_truB ?_ | refine ev_asL.mpr ?_ | refine ev_asTp.mpr ?_ | refine ev_asI.mpr ?_ | refine ev_add.mpr ?_ | refine ev_sub.mpr ?_ | refine ev_neg.mpr ?_ | refine ev_le.mpr ?_ | refine ev_lt.mpr ?_ | refine ev_ge.mpr ?_ | refine ev_gt.mpr ?_ | refine ev_eqI.mpr ?_ | refine ev_neI.mpr ?_ | refine ev_lenT.mpr ?_ | refine ev_lenL.mpr ?_ | refine ev_toT.mpr ?_ | refine ev_toLT.mpr ?_ | refine ev_toL.mpr ?_ | refine ev_isN.mpr ?_ | refine ev_slT.mpr ?_ | refine ev_slLL.mpr ?_ | refine if_t ?_ | refine if_f ?_)
/-! ### plans -/
def SizesOk (s : List Int) : Prop := 1 ≤ s.length ∧ s.length ≤ 4 ∧ ∀ x ∈ s, 0 ≤ x ∧ x < 7
theorem all_below : ∀ {l : List D} {m : Int}, (l.all fun x => isBelowD x m) = true → ∃ s : List Int, l = s.map .int ∧ ∀ x ∈ s, 0 ≤ x ∧ x < m
  | [], _, _ => ⟨[], rfl, fun _ h => nomatch h⟩
  | x :: l, m, h => by
    rw [List.all_cons, Bool.and_eq_true] at h
    obtain ⟨h1, h2⟩ := h
    obtain ⟨s, rfl, hs⟩ := all_below h2
    cases x with
    | int i =>
      have h1 : (decide (0 ≤ i) && decide (i < m)) = true := h1
      rw [Bool.and_eq_true, decide_eq_true_eq, decide_eq_true_eq] at h1
      refine ⟨i :: s, rfl, fun v hv => ?_⟩
      rcases List.mem_cons.mp hv with rfl | hv
      · exact h1
      · exact hs v hv
    | _ => cases h1
theorem areSizesD_iff {x : D} : areSizesD x = true ↔ ∃ s, x = dInts s ∧ SizesOk s := by
  constructor
  · intro h
    unfold areSizesD at h
    split at h
    · rename_i l
      simp only [Bool.and_eq_true, decide_eq_true_eq] at h
      obtain ⟨s, rfl, hs⟩ := all_below h.2
      rw [List.length_map] at h
      exact ⟨s, rfl, by omega, by omega, hs⟩
    · cases h
  · rintro ⟨s, rfl, h1, h2, h3⟩
    show (decide (1 ≤ ((s.map D.int).length : Int)) && decide (((s.map D.int).length : Int) ≤ 4) && (s.map D.int).all fun x => isBelowD x 7) = true
    rw [List.length_map, decide_eq_true (by omega), decide_eq_true (by omega), Bool.and_self, Bool.true_and, List.all_map, List.all_eq_true]
    intro x hx
    obtain ⟨a, b⟩ := h3 x hx
    show (decide (0 ≤ x) && decide (x < 7)) = true
    rw [decide_eq_true a, decide_eq_true b]
    rfl
theorem dInts_inj {a b : List Int} (h : dInts a = dInts b) : a = b := by
  unfold dInts at h
  injection h with h
  exact (List.map_inj_right fun _ _ e => by injection e).mp h
def dPlan (s : List Int) (ws : List Wait) : D := .tup [dInts s, dWaits ws]
def PlanOk (s : List Int) (ws : List Wait) : Prop := SizesOk s ∧ WaitsOk s ws
def IsPlan (x : D) : Prop := ∃ s ws, x = dPlan s ws ∧ PlanOk s ws
theorem dPlan_inj {s s' : List Int} {ws ws' : List Wait} (h : dPlan s ws = dPlan s' ws') : s = s' ∧ ws = ws' := by
  unfold dPlan at h
  injection h with h
  injection h with h1 h
  injection h with h2 h
  exact ⟨dInts_inj h1, dWaits_inj h2⟩
theorem pln_ints (s : List Int) : Pln (dInts s) := pln_mk fun y hy => by
  obtain ⟨i, _, rfl⟩ := List.mem_map.mp hy
  exact ⟨_, rfl⟩
theorem pln_waits (ws : List Wait) : Pln (dWaits ws) := pln_mk fun y hy => by
  obtain ⟨i, _, rfl⟩ := List.mem_map.mp hy
  exact pln_wait i
theorem pln_plan (s : List Int) (ws : List Wait) : Pln (dPlan s ws) := pln_mk fun y hy => by
  rcases List.mem_cons.mp hy with rfl | hy
  · exact pln_ints s
  · rcases List.mem_cons.mp hy with rfl | hy
    · exact pln_waits ws
    · exact nomatch hy
def tfIsPlan : TF := fun l n Q _ => ∃ x, l = [x] ∧ Pln x ∧ ∀ b, (b = true ↔ IsPlan x) → Q (.bl b) n
theorem is_plan_ok : ∀ l n Q E, tfIsPlan l n Q E → bodyTF 1 (b_is_plan tfIsPair tfAreSizes tfAreWaits) l n Q E := by
  intro l n Q E ⟨x, e, hp, q⟩
  subst e
  show b_is_plan tfIsPair tfAreSizes tfAreWaits E ⟨fun _ m => Q .non m, Q, fun _ _ => False, fun _ _ => False⟩ [some (.d x)] n
  unfold b_is_plan
  repeat' fail
  refine ⟨x, rfl, hp, ev_asB.mpr ?_⟩
  cases hc : isPairD x with
  | false =>
    refine if_f (q false ⟨(fun z => nomatch z), ?_⟩)
    rintro ⟨s, ws, rfl, _⟩
    cases hc
  | true =>
    obtain ⟨a, b, rfl⟩ : ∃ a b, x = .tup [a, b] := by
      cases x with
      | tup l =>
        match l, hc with
        | [a, b], _ => exact ⟨a, b, rfl⟩
      | _ => cases hc
    have pa : Pln a := pln_tup hp a List.mem_cons_self
    have pb : Pln b := pln_tup hp b (List.mem_cons_of_mem _ List.mem_cons_self)
    refine if_t ?_
    repeat' fail
    refine ev_ixT.mpr (opt_of (x := a) rfl ?_)
    repeat' fail
    refine ⟨a, rfl, pa, ev_asB.mpr ?_⟩
    cases h1 : areSizesD a with
    | false =>
      refine if_f (q false ⟨(fun z => nomatch z), ?_⟩)
      rintro ⟨s, ws, e, hs, _⟩
      unfold dPlan at e
      injection e with e
      injection e with e1 e
      rw [areSizesD_iff.mpr ⟨s, e1, hs⟩] at h1
      cases h1
    | true =>
      obtain ⟨s, rfl, hs⟩ := areSizesD_iff.mp h1
      refine if_t ?_
      repeat' fail
      refine ev_ixT.mpr (opt_of (x := dInts s) rfl ?_)
      repeat' fail
      refine ev_ixT.mpr (opt_of (x := b) rfl ?_)
      repeat' fail
      refine ⟨s, b, rfl, pb, fun c hc => q c ⟨fun z => ?_, fun z => ?_⟩⟩
      · obtain ⟨ws, rfl, hw⟩ := hc.mp z
        exact ⟨s, ws, rfl, hs, hw⟩
      · obtain ⟨s', ws, e, hs', hw⟩ := z
        unfold dPlan at e
        injection e with e
        injection e with e1 e
        injection e with e2 e
        have := dInts_inj e1
        subst this
        exact hc.mpr ⟨ws, e2, hw⟩
def tfCheckPlan (C : Addr) : TF := fun l n Q E => ∃ x, l = [x] ∧ Pln x ∧ (IsPlan x → Q .non n) ∧ (¬ IsPlan x → E C "" [] n)
theorem check_plan_ok (C : Addr) : ∀ l n Q E, tfCheckPlan C l n Q E → bodyTF 1 (b_check_plan C tfIsPlan) l n Q E := by
  intro l n Q E ⟨x, e, hp, q1, q2⟩
  subst e
  show b_check_plan C tfIsPlan E ⟨fun _ m => Q .non m, Q, fun _ _ => False, fun _ _ => False⟩ [some (.d x)] n
  unfold b_check_plan
  repeat' fail
  refine ⟨x, rfl, hp, fun b hb => ev_truB ?_⟩
  cases b with
  | true =>
    refine if_f ?_
    repeat' fail
    exact q1 (hb.mp rfl)
  | false =>
    refine if_t ?_
    repeat' fail
    exact q2 fun z => Bool.false_ne_true (hb.mpr z)
/-! ### sorted waits -/
def leW (a b : Wait) : Bool := !ltW b a
def sortW (ws : List Wait) : List Wait := ws.mergeSort leW
theorem keyD_wait (w : Wait) : keyD (dWait w) = pWait w := rfl
theorem toPs_waits : ∀ ws : List Wait, toPs (ws.map dWait) = some (ws.map pWait)
  | [] => rfl
  | w :: ws => by
    show toPs (dWait w :: ws.map dWait) = _
    unfold toPs
    rw [toPs_waits ws, toP_wait]
    rfl
theorem sort_waits (ws : List Wait) (h : ws.length ≤ 100000) : fSorted (.lst (ws.map dWait)) = some (.lst ((sortW ws).map dWait)) := by
  unfold fSorted
  dsimp only
  rw [toPs_waits]
  dsimp only
  have hb : sortB (ws.map pWait) = true := by
    unfold sortB
    simp only [Bool.and_eq_true, Bool.or_eq_true, List.all_eq_true, decide_eq_true_eq, List.mem_map]
    refine ⟨?_, .inl ?_, ?_⟩
    · rintro _ ⟨a, _, rfl⟩ _ ⟨b, _, rfl⟩
      exact alike_wait a b
    · rintro _ ⟨a, _, rfl⟩
      rfl
    · rintro _ ⟨a, _, rfl⟩
      rw [depth_wait]
      omega
  rw [if_pos ⟨hb, by rw [List.length_map]; exact h⟩]
  congr 2
  unfold sortW
  exact (List.map_mergeSort (r := leW) (s := leD) (f := dWait) fun a _ b _ => by
    unfold leW leD
    rw [keyD_wait, keyD_wait, lt_wait]).symm
end Pl

set_option Elab.async false
set_option linter.all false
set_option maxRecDepth 100000
set_option maxHeartbeats 4000000
namespace Pl
open PySem L2 VD PenM
local macro_rules | `(tactic| fail) => `(tactic| with_reducible first | refine s_next.mpr ?_ | refine s_seq.mpr ?_ | refine s_ifS.mpr ?_ | refine s_if.mpr ?_ | refine s_ret.mpr ?_ | refine s_T.mpr ?_ | refine s_Tr.mpr ?_ | refine s_notT.mpr ?_ | refine s_andT.mpr ?_ | refine s_orT.mpr ?_ | refine s_and.mpr ?_ | refine s_or.mpr ?_ | refine s_not.mpr ?_ | refine s_set.mpr ?_ | refine s_setO.mpr ?_ | refine s_2.mpr ?_ | refine s_1.mpr ?_ | refine s_C.mpr ?_ | refine var_at rfl ?_ | refine own_at rfl ?_ | refine s_cons.mpr ?_ | refine s_nil.mpr ?_ | refine s_call.mpr ?_ | refine s_callE.mpr ?_ | refine arg1 ?_ | refine arg2 ?_ | refine arg3 ?_ | refine arg4 ?_ | refine s_tup.mpr ?_ | refine s_lst.mpr ?_ | refine s_mt.mpr ?_ | refine s_ch.mpr ?_ | refine s_asg.mpr ?_ | refine s_par.mpr ?_ | refine s_drop.mpr ?_ | refine s_raise.mpr ?_ | refine s_iL.mpr ?_ | refine s_iT.mpr ?_ | refine s_iEL.mpr ?_ | refine s_iET.mpr ?_ | refine s_iR1.mpr ?_ | refine s_iR2.mpr ?_ | refine s_iZp.mpr ?_ | refine s_lc.mpr ?_ | refine s_for.mpr ?_ | refine s_gen.mpr ?_ | refine s_sl.mpr ?_ | refine s_no.mpr ?_ | refine s_pt.mpr ?_ | refine s_yes.mpr ?_ | refine app_at rfl ?_ | refine ext_at rfl ?_ | refine frz_at rfl ?_ | refine ev_asB.mpr ?_ | refine ev_truB ?_ | refine ev_asL.mpr ?_ | refine ev_asTp.mpr ?_ | refine ev_asI.mpr ?_ | refine ev_add.mpr ?_ | refine ev_sub.mpr ?_ | refine ev_neg.mpr ?_ | refine ev_le.mpr ?_ | refine ev_lt.mpr ?_ | refine ev_ge.mpr ?_ | refine ev_gt.mpr ?_ | refine ev_eqI.mpr ?_ | refine ev_neI.mpr ?_ | refine ev_lenT.mpr ?_ | refine ev_lenL.mpr ?_ | refine ev_toT.mpr ?_ | refine ev_toLT.mpr ?_ | refine ev_toL.mpr ?_ | refine ev_isN.mpr ?_ | refine ev_slT.mpr ?_ | refine ev_slLL.mpr ?_ | refine if_t ?_ | refine if_f ?_)
/-! ### mirrored, side by side -/
def mirJ (s : List Int) (j : Job) : Job := (j.1, s.getD j.1.toNat 0 - 1 - j.2)
def mirW (s : List Int) (w : Wait) : Wait := (mirJ s w.2, mirJ s w.1)
theorem ints_get {s : List Int} {i : Int} (h0 : 0 ≤ i) (h1 : i < s.length) : atI (s.map D.int) i = some (.int (s.getD i.toNat 0)) := by
  rw [atI_nn h0, List.getElem?_map, List.getD_eq_getElem?_getD, List.getElem?_eq_getElem (by omega : i.toNat < s.length)]
  rfl
def tfMirJ : TF := fun l n Q _ => ∃ (s : List Int) (j : Job), l = [dInts s, dJob j] ∧ 0 ≤ j.1 ∧ j.1 < s.length ∧ Q (dJob (mirJ s j)) n
theorem mirrored_job_ok : ∀ l n Q E, tfMirJ l n Q E → bodyTF 4 b_mirrored_job l n Q E := by
  intro l n Q E ⟨s, j, e, h0, h1, q⟩
  subst e
  show b_mirrored_job E ⟨fun _ m => Q .non m, Q, fun _ _ => False, fun _ _ => False⟩ [some (.d (dInts s)), some (.d (dJob j)), none, none] n
  unfold b_mirrored_job
  repeat' fail
  refine opt_of rfl ?_
  repeat' fail
  unfold dInts
  refine ev_ixT.mpr (opt_of (ints_get h0 h1) ?_)
  repeat' fail
  exact ⟨of_decide_eq_true rfl, q⟩
def tfMir (C : Addr) : TF := fun l n Q E => ∃ x, l = [x] ∧ Pln x ∧ (∀ s ws, x = dPlan s ws → PlanOk s ws → Q (dPlan s (sortW (ws.map (mirW s)))) n) ∧ (¬ IsPlan x → E C "" [] n)
theorem mirrored_ok (C : Addr) : ∀ l n Q E, tfMir C l n Q E → bodyTF 6 (b_mirrored (tfCheckPlan C) tfMirJ) l n Q E := by
  intro l n Q E ⟨x, e, hp, q1, q2⟩
  subst e
  show b_mirrored (tfCheckPlan C) tfMirJ E ⟨fun _ m => Q .non m, Q, fun _ _ => False, fun _ _ => False⟩ [some (.d x), none, none, none, none, none] n
  unfold b_mirrored
  repeat' fail
  refine ⟨x, rfl, hp, fun ⟨s, ws, e, ok⟩ => ?_, q2⟩
  subst e
  repeat' fail
  refine opt_of rfl ?_
  repeat' fail
  refine ev_asTp.mpr ⟨by rw [List.length_map]; have := ok.2.1; omega, ?_⟩
  refine lc_map dWait (fun w => dWait (mirW s w)) _ [] (fun w hw R S hR => ?_) ?_
  · obtain ⟨⟨a1, a2, _⟩, ⟨b1, b2, _⟩, _⟩ := ok.2.2.1 w hw
    refine opt_of rfl ?_
    repeat' fail
    refine ⟨s, w.2, rfl, b1, b2, ?_⟩
    repeat' fail
    refine ⟨s, w.1, rfl, a1, a2, ?_⟩
    exact ⟨of_decide_eq_true rfl, hR⟩
  repeat' fail
  have e : ([] ++ ws.map fun w => dWait (mirW s w)) = (ws.map (mirW s)).map dWait := by rw [List.map_map]; rfl
  rw [e]
  refine opt_of (sort_waits _ (by rw [List.length_map]; have := ok.2.1; omega)) ?_
  repeat' fail
  exact ⟨of_decide_eq_true rfl, q1 s ws rfl ok⟩
def mvJ (m : Int) (j : Job) : Job := (j.1 + m, j.2)
def mvW (m : Int) (w : Wait) : Wait := (mvJ m w.1, mvJ m w.2)
def tfMvJ : TF := fun l n Q _ => ∃ (m : Int) (j : Job), l = [.int m, dJob j] ∧ Q (dJob (mvJ m j)) n
theorem moved_job_ok : ∀ l n Q E, tfMvJ l n Q E → bodyTF 2 b_moved_job l n Q E := by
  intro l n Q E ⟨m, j, e, q⟩
  subst e
  show b_moved_job E ⟨fun _ m => Q .non m, Q, fun _ _ => False, fun _ _ => False⟩ [some (.d (.int m)), some (.d (dJob j))] n
  unfold b_moved_job
  repeat' fail
  refine ev_ixT.mpr (opt_of (x := .int j.1) rfl ?_)
  repeat' fail
  refine ev_ixT.mpr (opt_of (x := .int j.2) rfl ?_)
  repeat' fail
  exact ⟨of_decide_eq_true rfl, q⟩
def tooBig (s s' : List Int) (ws ws' : List Wait) : Prop := 4 < s.length + s'.length ∨ 24 < ws.length + ws'.length
def tfSide (C C2 : Addr) : TF := fun l n Q E => ∃ x y, l = [x, y] ∧ Pln x ∧ Pln y ∧ (¬ (IsPlan x ∧ IsPlan y) → E C "" [] n) ∧ ∀ s ws s' ws', x = dPlan s ws → PlanOk s ws → y = dPlan s' ws' → PlanOk s' ws' →
  (tooBig s s' ws ws' → E C2 "" [] n) ∧ (¬ tooBig s s' ws ws' → Q (dPlan (s ++ s') (ws ++ ws'.map (mvW s.length))) n)
theorem side_ok (C C2 : Addr) : ∀ l n Q E, tfSide C C2 l n Q E → bodyTF 6 (b_side_by_side C2 (tfCheckPlan C) tfMvJ) l n Q E := by
  intro l n Q E ⟨x, y, e, hx, hy, q1, q2⟩
  subst e
  show b_side_by_side C2 (tfCheckPlan C) tfMvJ E ⟨fun _ m => Q .non m, Q, fun _ _ => False, fun _ _ => False⟩ [some (.d x), some (.d y), none, none, none, none] n
  unfold b_side_by_side
  repeat' fail
  refine ⟨x, rfl, hx, fun px => ?_, fun px => q1 fun z => px z.1⟩
  repeat' fail
  refine ⟨y, rfl, hy, fun py => ?_, fun py => q1 fun z => py z.2⟩
  obtain ⟨s, ws, rfl, ok⟩ := px
  obtain ⟨s', ws', rfl, ok'⟩ := py
  obtain ⟨big, small⟩ := q2 s ws s' ws' rfl ok rfl ok'
  have i0 : ∀ {s : List Int} {ws : List Wait} {k : D → Prop}, k (dInts s) → opt (fIxT (dPlan s ws) (.int 0)) k := fun h => h
  have i1 : ∀ {s : List Int} {ws : List Wait} {k : D → Prop}, k (dWaits ws) → opt (fIxT (dPlan s ws) (.int 1)) k := fun h => h
  have l0 : ∀ {s : List Int} {k : D → Prop}, k (.int s.length) → opt (fLen (dInts s)) k := fun {s k} h => by
    unfold dInts
    refine ev_lenT.mpr ?_
    rw [List.length_map]
    exact h
  have l1 : ∀ {s : List Wait} {k : D → Prop}, k (.int s.length) → opt (fLen (dWaits s)) k := fun {s k} h => by
    unfold dWaits
    refine ev_lenT.mpr ?_
    rw [List.length_map]
    exact h
  repeat' fail
  refine i0 (l0 ?_)
  repeat' fail
  refine i0 (l0 ?_)
  repeat' fail
  by_cases c : (4 : Int) < (s.length : Int) + (s'.length : Int)
  · rw [decide_eq_true c]
    refine if_t (if_t ?_)
    repeat' fail
    exact big (.inl (by omega))
  · rw [decide_eq_false c]
    refine if_f ?_
    repeat' fail
    refine i1 (l1 ?_)
    repeat' fail
    refine i1 (l1 ?_)
    repeat' fail
    by_cases c2 : (24 : Int) < (ws.length : Int) + (ws'.length : Int)
    · rw [decide_eq_true c2]
      refine if_t ?_
      repeat' fail
      exact big (.inr (by omega))
    · rw [decide_eq_false c2]
      refine if_f ?_
      have ht : ¬ tooBig s s' ws ws' := fun z => by
        rcases z with z | z <;> omega
      repeat' fail
      refine i0 (l0 ?_)
      repeat' fail
      refine i1 ?_
      unfold dWaits
      refine ev_asTp.mpr ⟨by rw [List.length_map]; have := ok'.2.1; omega, ?_⟩
      refine lc_map dWait (fun w => dWait (mvW s.length w)) _ [] (fun w hw R S hR => ?_) ?_
      · refine opt_of rfl ?_
        repeat' fail
        refine ⟨_, w.1, rfl, ?_⟩
        repeat' fail
        refine ⟨_, w.2, rfl, ?_⟩
        exact ⟨of_decide_eq_true rfl, hR⟩
      repeat' fail
      refine i0 ?_
      repeat' fail
      refine i0 ?_
      unfold dInts
      refine ev_catT.mpr ⟨by rw [List.length_map, List.length_map]; have := ok.1.2.1; have := ok'.1.2.1; omega, ?_⟩
      repeat' fail
      refine i1 ?_
      repeat' fail
      unfold dWaits
      refine ev_catT.mpr ⟨by rw [List.length_map, List.nil_append, List.length_map]; have := ok.2.1; have := ok'.2.1; omega, ?_⟩
      have e : dPlan (s ++ s') (ws ++ ws'.map (mvW s.length)) = .tup [.tup (s.map .int ++ s'.map .int), .tup (ws.map dWait ++ ([] ++ ws'.map fun w => dWait (mvW s.length w)))] := by
        unfold dPlan dInts dWaits
        rw [List.map_append, List.map_append, List.map_map]
        rfl
      refine ⟨of_decide_eq_true rfl, ?_⟩
      rw [← e]
      exact small ht
end Pl

set_option Elab.async false
set_option linter.all false
set_option maxRecDepth 100000
set_option maxHeartbeats 4000000
namespace Lb
open PySem L2 VD PenM Pl
local macro_rules | `(tactic| fail) => `(tactic| with_reducible first | refine s_next.mpr ?_ | refine s_seq.mpr ?_ | refine s_ifS.mpr ?_ | refine s_if.mpr ?_ | refine s_ret.mpr ?_ | refine s_T.mpr ?_ | refine s_Tr.mpr ?_ | refine s_notT.mpr ?_ | refine s_andT.mpr ?_ | refine s_orT.mpr ?_ | refine s_and.mpr ?_ | refine s_or.mpr ?_ | refine s_not.mpr ?_ | refine s_set.mpr ?_ | refine s_setO.mpr ?_ | refine s_2.mpr ?_ | refine s_1.mpr ?_ | refine s_C.mpr ?_ | refine var_at rfl ?_ | refine own_at rfl ?_ | refine s_cons.mpr ?_ | refine s_nil.mpr ?_ | refine s_call.mpr ?_ | refine s_callE.mpr ?_ | refine arg1 ?_ | refine arg2 ?_ | refine arg3 ?_ | refine arg4 ?_ | refine s_tup.mpr ?_ | refine s_lst.mpr ?_ | refine s_mt.mpr ?_ | refine s_ch.mpr ?_ | refine s_asg.mpr ?_ | refine s_par.mpr ?_ | refine s_drop.mpr ?_ | refine s_raise.mpr ?_ | refine s_iL.mpr ?_ | refine s_iT.mpr ?_ | refine s_iEL.mpr ?_ | refine s_iET.mpr ?_ | refine s_iR1.mpr ?_ | refine s_iR2.mpr ?_ | refine s_iZp.mpr ?_ | refine s_lc.mpr ?_ | refine s_for.mpr ?_ | refine s_gen.mpr ?_ | refine s_sl.mpr ?_ | refine s_no.mpr ?_ | refine s_pt.mpr ?_ | refine s_yes.mpr ?_ | refine app_at rfl ?_ | refine ext_at rfl ?_ | refine frz_at rfl ?_ | refine ev_asB.mpr ?_ | refine ev_truB ?_ | refine ev_asL.mpr ?_ | refine ev_asTp.mpr ?_ | refine ev_asI.mpr ?_ | refine ev_add.mpr ?_ | refine ev_sub.mpr ?_ | refine ev_neg.mpr ?_ | refine ev_le.mpr ?_ | refine ev_lt.mpr ?_ | refine ev_ge.mpr ?_ | refine ev_gt.mpr ?_ | refine ev_eqI.mpr ?_ | refine ev_neI.mpr ?_ | refine ev_lenT.mpr ?_ | refine ev_lenL.mpr ?_ | refine ev_toT.mpr ?_ | refine ev_toLT.mpr ?_ | refine ev_toL.mpr ?_ | refine ev_isN.mpr ?_ | refine ev_slT.mpr ?_ | refine ev_slLL.mpr ?_ | refine if_t ?_ | refine if_f ?_)
def b__law_jobs : EK → TSD := fun E => (dSeq (dSetO 1 (dLst dNil)) (dSeq (dFor (iET (dVar 0)) (gTp (gCn (gNm 2) (gCn (gNm 3) gNl))) (dExt 1 (dLc (iR1 (dVar 3)) [4] (gNm 4) dYes (dTup (dCons (dVar 2) (dCons (dVar 4) dNil)))))) (dRetO 1)))
def b__law_plan (t__law_take : TF) (t__law_jobs : TF) (t__law_ranks : TF) (t__law_one : TF) : EK → TSD := fun E => (dSeq (dSet 4 (d1 fToT (dLc (iR1 (d2 fAdd (dC (.int 1)) (dCall 2 t__law_take E (dCons (dVar 0) (dCons (dVar 1) dNil))))) [9] (gNm 9) dYes (dCall 2 t__law_take E (dCons (dVar 0) (dCons (d2 fAdd (dVar 2) (dC (.int 1))) dNil)))))) (dSeq (dPar 5 6 false true (dCall 1 t__law_jobs E (dCons (dVar 4) dNil)) (dLst dNil)) (dSeq (dSet 7 (dCall 2 t__law_ranks E (dCons (dVar 0) (dCons (dVar 4) dNil)))) (dSeq (dSet 8 (d2 fEq (dCall 2 t__law_take E (dCons (dVar 0) (dCons (dC (.int 4)) dNil))) (dC (.int 0)))) (dSeq (dFor (iR1 (dCall 2 t__law_take E (dCons (dVar 0) (dCons (d2 fAdd (dVar 3) (dC (.int 1))) dNil)))) (gNm 9) (dSeq (dAsg (gTp (gCn (gNm 10) (gCn (gNm 11) gNl))) (dIf (dT (d2 fNe (dVar 5) (dLst dNil))) (dTup (dCons (dCall 2 t__law_one E (dCons (dVar 0) (dCons (dVar 5) dNil))) (dCons (dCall 2 t__law_one E (dCons (dVar 0) (dCons (dVar 5) dNil))) dNil))) (dTup (dCons (dTup (dCons (dC (.int 0)) (dCons (dC (.int 0)) dNil))) (dCons (dTup (dCons (dC (.int 0)) (dCons (dC (.int 0)) dNil))) dNil))))) (dSeq (dIfS (dAndT (dT (d2 fNe (d2 fIxT (dVar 10) (dC (.int 0))) (d2 fIxT (dVar 11) (dC (.int 0))))) (dAndT (dNotT (dTr (dVar 8))) (dT (d2 fGt (dMt fIdx (dVar 7) (dVar 10)) (dMt fIdx (dVar 7) (dVar 11)))))) (dPar 10 11 false false (dVar 11) (dVar 10)) dNext) (dIfS (dAndT (dT (d2 fNe (d2 fIxT (dVar 10) (dC (.int 0))) (d2 fIxT (dVar 11) (dC (.int 0))))) (dT (d2 fNotIn (dTup (dCons (dVar 10) (dCons (dVar 11) dNil))) (dOwn 6)))) (dApp 6 (dTup (dCons (dVar 10) (dCons (dVar 11) dNil)))) dNext)))) (dRet (dTup (dCons (dVar 4) (dCons (d1 fToT (d1 fSorted (dOwn 6))) dNil)))))))))
def b__law_ranks (t__law_one : TF) : EK → TSD := fun E => (dSeq (dPar 2 3 true true (d1 fToL (dVar 1)) (dLst dNil)) (dSeq (dWhile (dT (d2 fGt (d1 fSumL (dOwn 2)) (dC (.int 0)))) (dSeq (dSet 4 (dCall 2 t__law_one E (dCons (dVar 0) (dCons (dLc (iOwnE 2) [5, 6] (gTp (gCn (gNm 5) (gCn (gNm 6) gNl))) (dT (d2 fGt (dVar 6) (dC (.int 0)))) (dVar 5)) dNil)))) (dSeq (dApp 3 (dTup (dCons (dVar 4) (dCons (d2 fSub (d2 fIxT (dVar 1) (dVar 4)) (d2 fIxL (dOwn 2) (dVar 4))) dNil)))) (dPut 2 (dVar 4) (d2 fSub (d2 fIxL (dOwn 2) (dVar 4)) (dC (.int 1))))))) (dFrz 3 (dRet (dVar 3)))))
def b__law_turned : EK → TSD := fun E => (dSeq (dPar 1 2 false true (d2 fIxT (dVar 0) (dC (.int 0))) (dLst dNil)) (dSeq (dFor (iT (d2 fIxT (dVar 0) (dC (.int 1)))) (gTp (gCn (gTp (gCn (gNm 3) (gCn (gNm 4) gNl))) (gCn (gTp (gCn (gNm 5) (gCn (gNm 6) gNl))) gNl))) (dApp 2 (dTup (dCons (dTup (dCons (dVar 5) (dCons (d2 fSub (d2 fSub (d2 fIxT (dVar 1) (dVar 5)) (dVar 6)) (dC (.int 1))) dNil))) (dCons (dTup (dCons (dVar 3) (dCons (d2 fSub (d2 fSub (d2 fIxT (dVar 1) (dVar 3)) (dVar 4)) (dC (.int 1))) dNil))) dNil))))) (dRet (dTup (dCons (dVar 1) (dCons (d1 fToT (d1 fSorted (dOwn 2))) dNil))))))
def b__law_both : EK → TSD := fun E => (dSeq (dIfS (dOrT (dT (d2 fGt (d2 fAdd (d1 fLen (d2 fIxT (dVar 0) (dC (.int 0)))) (d1 fLen (d2 fIxT (dVar 1) (dC (.int 0))))) (dC (.int 4)))) (dT (d2 fGt (d2 fAdd (d1 fLen (d2 fIxT (dVar 0) (dC (.int 1)))) (d1 fLen (d2 fIxT (dVar 1) (dC (.int 1))))) (dC (.int 24))))) (dRet (dC (.str "many"))) dNext) (dSeq (dPar 2 3 false true (d1 fLen (d2 fIxT (dVar 0) (dC (.int 0)))) (d1 fToL (d2 fIxT (dVar 0) (dC (.int 1))))) (dSeq (dFor (iT (d2 fIxT (dVar 1) (dC (.int 1)))) (gTp (gCn (gTp (gCn (gNm 4) (gCn (gNm 5) gNl))) (gCn (gTp (gCn (gNm 6) (gCn (gNm 7) gNl))) gNl))) (dApp 3 (dTup (dCons (dTup (dCons (d2 fAdd (dVar 4) (dVar 2)) (dCons (dVar 5) dNil))) (dCons (dTup (dCons (d2 fAdd (dVar 6) (dVar 2)) (dCons (dVar 7) dNil))) dNil))))) (dRet (dTup (dCons (d2 fCatT (d2 fIxT (dVar 0) (dC (.int 0))) (d2 fIxT (dVar 1) (dC (.int 0)))) (dCons (d1 fToT (dOwn 3)) dNil)))))))
def b__law_dense (t__law_take : TF) : EK → TSD := fun E => (dSeq (dSetO 1 (dLc (iR1 (dC (.int 36))) [2] (gNm 2) dYes (dTup (dCons (dTup (dCons (dC (.int 0)) (dCons (d2 fDiv (dVar 2) (dC (.int 6))) dNil))) (dCons (dTup (dCons (dC (.int 1)) (dCons (d2 fMod (dVar 2) (dC (.int 6))) dNil))) dNil))))) (dFrz 1 (dRet (dTup (dCons (dTup (dCons (dC (.int 6)) (dCons (dC (.int 6)) dNil))) (dCons (d1 fToT (dSl fSlL (dVar 1) dNo (dPt (d2 fAdd (dC (.int 11)) (dCall 2 t__law_take E (dCons (dVar 0) (dCons (dC (.int 3)) dNil))))))) dNil))))))
/-! ### all jobs -/
def jobsQ (q : Nat) (m : Int) : List Job := (List.range m.toNat).map fun (p : Nat) => ((q : Int), (p : Int))
def jobsL (s : List Int) : List Job := (List.range s.length).flatMap fun q => jobsQ q (s.getD q 0)
theorem mem_jobsL {s : List Int} {j : Job} : j ∈ jobsL s ↔ jobOf s j := by
  unfold jobsL jobsQ jobOf
  simp only [List.mem_flatMap, List.mem_range, List.mem_map]
  constructor
  · rintro ⟨q, hq, p, hp, rfl⟩
    dsimp only
    rw [Int.toNat_natCast]
    omega
  · rintro ⟨h1, h2, h3, h4⟩
    refine ⟨j.1.toNat, by omega, j.2.toNat, by omega, ?_⟩
    exact Prod.ext (by dsimp only; omega) (by dsimp only; omega)
def tfJobs : TF := fun l n Q _ => ∃ s : List Int, l = [dInts s] ∧ s.length ≤ 4 ∧ (∀ x ∈ s, 0 ≤ x ∧ x < 7) ∧ Q (.lst ((jobsL s).map dJob)) n
theorem enum_tup (s : List Int) : enumD (s.map .int) = (List.range s.length).map fun (q : Nat) => D.tup [.int q, .int (s.getD q 0)] := by
  unfold enumD
  rw [List.length_map]
  refine List.map_congr_left fun i hi => ?_
  have hi := List.mem_range.mp hi
  rw [List.getElem?_map, List.getD_eq_getElem?_getD, List.getElem?_eq_getElem hi]
  rfl
theorem jobs_len {s : List Int} (h : s.length ≤ 4) (hb : ∀ x ∈ s, 0 ≤ x ∧ x < 7) : ∀ k, k ≤ s.length → ((List.range k).flatMap fun q => jobsQ q (s.getD q 0)).length ≤ 6 * k
  | 0, _ => Nat.le_refl _
  | k + 1, hk => by
    rw [List.range_succ, List.flatMap_append, List.length_append, List.flatMap_singleton]
    have z := jobs_len h hb k (by omega)
    have y : (jobsQ k (s.getD k 0)).length ≤ 6 := by
      unfold jobsQ
      rw [List.length_map, List.length_range, List.getD_eq_getElem?_getD, List.getElem?_eq_getElem (by omega : k < s.length)]
      have := hb s[k] (List.getElem_mem _)
      show s[k].toNat ≤ 6
      omega
    omega
theorem jobs_ok : ∀ l n Q E, tfJobs l n Q E → bodyTFf 5 b__law_jobs l n Q E := by
  intro l n Q E ⟨s, e, h4, hb, q⟩
  subst e
  show b__law_jobs E ⟨fun _ _ => False, Q, fun _ _ => False, fun _ _ => False⟩ [some (.d (dInts s)), none, none, none, none] n
  unfold b__law_jobs
  repeat' fail
  refine ⟨of_decide_eq_true rfl, ?_⟩
  repeat' fail
  refine ev_asTp.mpr ?_
  rw [enum_tup]
  refine for_ind (J := fun xs e m => m = n ∧ ∃ (k : Nat) (a b c : Option S), k ≤ s.length ∧ xs = ((List.range s.length).drop k).map (fun (q : Nat) => D.tup [.int q, .int (s.getD q 0)]) ∧
    e = [some (.d (dInts s)), some (.own (((List.range k).flatMap fun q => jobsQ q (s.getD q 0)).map dJob)), a, b, c]) ?_ ?_ _ _ _ ⟨rfl, 0, none, none, none, Nat.zero_le _, rfl, rfl⟩
  · rintro e m ⟨rfl, k, a, b, c, hk, hx, rfl⟩
    have hk' : k = s.length := by
      have z := congrArg List.length hx
      rw [List.length_nil, List.length_map, List.length_drop, List.length_range] at z
      omega
    subst hk'
    exact s_retO rfl q
  · rintro x xs e m p ⟨rfl, k, a, b, c, hk, hx, rfl⟩ hq
    have hk' : k < s.length := by
      have z := congrArg List.length hx
      rw [List.length_cons, List.length_map, List.length_drop, List.length_range] at z
      omega
    rw [List.drop_eq_getElem_cons (by rw [List.length_range]; exact hk'), List.map_cons, List.getElem_range] at hx
    injection hx with e1 e2
    subst e1 e2
    refine opt_of rfl ?_
    repeat' fail
    have hv := hb (s.getD k 0) (by
      rw [List.getD_eq_getElem?_getD, List.getElem?_eq_getElem hk']
      exact List.getElem_mem _)
    refine ⟨by omega, ?_⟩
    refine ⟨by unfold rngD; rw [List.length_map, List.length_range]; omega, ?_⟩
    have er : rngD 0 (s.getD k 0).toNat = (List.range (s.getD k 0).toNat).map fun (p : Nat) => D.int (p : Int) := by
      unfold rngD
      refine List.map_congr_left fun i _ => ?_
      rw [Int.zero_add]
    rw [er]
    refine lc_map _ (fun (p : Nat) => dJob ((k : Int), (p : Int))) _ [] (fun p hp R S' hR => ?_) ?_
    · refine opt_of rfl ?_
      repeat' fail
      exact ⟨of_decide_eq_true rfl, hR⟩
    repeat' fail
    have el : (([] : List D) ++ (List.range (s.getD k 0).toNat).map fun (p : Nat) => dJob ((k : Int), (p : Int))) = (jobsQ k (s.getD k 0)).map dJob := by
      unfold jobsQ
      rw [List.map_map]
      rfl
    rw [el]
    have l1 := jobs_len h4 hb k hk
    have l2 := jobs_len h4 hb (k + 1) hk'
    rw [List.range_succ, List.flatMap_append, List.length_append, List.flatMap_singleton] at l2
    refine ⟨by rw [List.length_map, List.length_map]; omega, hq _ _ ⟨rfl, k + 1, some (.d (.int k)), some (.d (.int (s.getD k 0))), c, hk', rfl, ?_⟩⟩
    rw [List.range_succ, List.flatMap_append, List.flatMap_singleton, List.map_append]
    rfl
/-! ### an order of all jobs -/
def tfRanks : TF := fun l n Q _ => ∃ s : List Int, l = [.pen, dInts s] ∧ s.length ≤ 4 ∧ (∀ x ∈ s, 0 ≤ x ∧ x < 7) ∧ n < 900000 ∧ ∀ (row : List Job) n', (∀ j, jobOf s j → j ∈ row) → row.length ≤ 24 → n ≤ n' → n' ≤ n + 24 → Q (.lst (row.map dJob)) n'
theorem sum_le {L s : List Int} (h : L.length = s.length) (hl : ∀ i (h1 : i < L.length) (h2 : i < s.length), L[i] ≤ s[i]) : L.sum ≤ s.sum := by
  induction L generalizing s with
  | nil =>
    cases s with
    | nil => exact Int.le_refl _
    | cons => cases h
  | cons x L ih =>
    cases s with
    | nil => cases h
    | cons y s =>
      have h0 : x ≤ y := hl 0 (by simp) (by simp)
      have := ih (s := s) (by simpa using h) fun i h1 h2 => hl (i + 1) (by simpa using h1) (by simpa using h2)
      rw [List.sum_cons, List.sum_cons]
      omega
theorem sum_set {L : List Int} {i : Nat} (h : i < L.length) (x : Int) : (L.set i x).sum = L.sum - L[i] + x := by
  induction L generalizing i with
  | nil => simp at h
  | cons y L ih =>
    cases i with
    | zero =>
      rw [List.set_cons_zero, List.sum_cons, List.sum_cons]
      show x + L.sum = y + L.sum - y + x
      omega
    | succ i =>
      have h' : i < L.length := by simpa using h
      rw [List.set_cons_succ, List.sum_cons, List.sum_cons, ih h']
      show y + (L.sum - L[i] + x) = y + L.sum - L[i] + x
      omega
theorem sum_pos {L : List Int} (h0 : ∀ x ∈ L, 0 ≤ x) (h : 0 < L.sum) : ∃ i, ∃ hi : i < L.length, 0 < L[i] := by
  induction L with
  | nil => simp at h
  | cons x L ih =>
    rw [List.sum_cons] at h
    by_cases c : 0 < x
    · exact ⟨0, by simp, c⟩
    · have hx := h0 x List.mem_cons_self
      obtain ⟨i, hi, hp⟩ := ih (fun y hy => h0 y (List.mem_cons_of_mem _ hy)) (by omega)
      exact ⟨i + 1, by simpa using hi, hp⟩
theorem sum_nn {L : List Int} (h0 : ∀ x ∈ L, 0 ≤ x) : 0 ≤ L.sum := by
  induction L with
  | nil => simp
  | cons x L ih =>
    rw [List.sum_cons]
    have := ih fun y hy => h0 y (List.mem_cons_of_mem _ hy)
    have := h0 x List.mem_cons_self
    omega
theorem sum_zero {L : List Int} (h0 : ∀ x ∈ L, 0 ≤ x) (h : L.sum ≤ 0) : ∀ x ∈ L, x = 0 := by
  induction L with
  | nil => exact fun _ h => nomatch h
  | cons y L ih =>
    rw [List.sum_cons] at h
    have h1 := sum_nn fun x hx => h0 x (List.mem_cons_of_mem y hx)
    have h2 := h0 y List.mem_cons_self
    intro x hx
    rcases List.mem_cons.mp hx with rfl | hx
    · omega
    · exact ih (fun x hx => h0 x (List.mem_cons_of_mem _ hx)) (by omega) x hx
/-- what holds between the turns -/
structure RkInv (s L : List Int) (row : List Job) : Prop where
  len : L.length = s.length
  nn : ∀ x ∈ L, 0 ≤ x
  le : ∀ i (h1 : i < L.length) (h2 : i < s.length), L[i] ≤ s[i]
  has : ∀ q (h1 : q < L.length) (h2 : q < s.length) (p : Int), 0 ≤ p → p < s[q] - L[q] → ((q : Int), p) ∈ row
  num : (row.length : Int) + L.sum = s.sum
theorem sum_24 {s : List Int} (h4 : s.length ≤ 4) (hb : ∀ x ∈ s, 0 ≤ x ∧ x < 7) : s.sum ≤ 24 := by
  match s, h4 with
  | [], _ => simp
  | [a], _ =>
    have := hb a (by simp)
    simp only [List.sum_cons, List.sum_nil]
    omega
  | [a, b], _ =>
    have := hb a (by simp)
    have := hb b (by simp)
    simp only [List.sum_cons, List.sum_nil]
    omega
  | [a, b, c], _ =>
    have := hb a (by simp)
    have := hb b (by simp)
    have := hb c (by simp)
    simp only [List.sum_cons, List.sum_nil]
    omega
  | [a, b, c, d], _ =>
    have := hb a (by simp)
    have := hb b (by simp)
    have := hb c (by simp)
    have := hb d (by simp)
    simp only [List.sum_cons, List.sum_nil]
    omega
theorem RkInv.step {s L : List Int} {row : List Job} (I : RkInv s L row) {q : Nat} (hq : q < L.length) (hp : 0 < L[q]) : RkInv s (L.set q (L[q] - 1)) (row ++ [((q : Int), s.getD q 0 - L[q])]) where
  len := by rw [List.length_set]; exact I.len
  nn := fun x hx => by
    rcases List.mem_or_eq_of_mem_set hx with h | rfl
    · exact I.nn x h
    · omega
  le := fun i h1 h2 => by
    rw [List.getElem_set]
    split
    · rename_i e
      subst e
      have := I.le q hq h2
      omega
    · exact I.le i (by rw [List.length_set] at h1; exact h1) h2
  has := fun i h1 h2 p p0 p1 => by
    rw [List.length_set] at h1
    rw [List.getElem_set] at p1
    rw [List.mem_append, List.mem_singleton]
    split at p1
    · rename_i e
      subst e
      by_cases c : p < s[q] - L[q]
      · exact .inl (I.has q hq h2 p p0 c)
      · refine .inr (Prod.ext rfl ?_)
        show p = s.getD q 0 - L[q]
        rw [List.getD_eq_getElem?_getD, List.getElem?_eq_getElem h2]
        show p = s[q] - L[q]
        omega
    · exact .inl (I.has i h1 h2 p p0 p1)
  num := by
    rw [List.length_append, List.length_singleton, sum_set hq]
    have := I.num
    omega
theorem RkInv.start (s : List Int) (hb : ∀ x ∈ s, 0 ≤ x ∧ x < 7) : RkInv s s [] :=
  ⟨rfl, fun x hx => (hb x hx).1, fun _ _ _ => Int.le_refl _, fun q h1 h2 p p0 p1 => by omega, by simp⟩
theorem RkInv.done {s L : List Int} {row : List Job} (I : RkInv s L row) (h : L.sum ≤ 0) : ∀ j, jobOf s j → j ∈ row := fun j ⟨h1, h2, h3, h4⟩ => by
  have hs : j.1.toNat < s.length := by omega
  have hL : j.1.toNat < L.length := by rw [I.len]; exact hs
  have z := sum_zero I.nn h L[j.1.toNat] (List.getElem_mem _)
  rw [List.getD_eq_getElem?_getD, List.getElem?_eq_getElem hs] at h4
  have y := I.has j.1.toNat hL hs j.2 h3 (by rw [z]; simpa using h4)
  have e : ((j.1.toNat : Int), j.2) = j := Prod.ext (by dsimp only; omega) rfl
  rw [e] at y
  exact y
theorem own_enum (L : List Int) : enumD (L.map .int) = (List.range L.length).map fun (q : Nat) => D.tup [.int q, .int (L.getD q 0)] := enum_tup L
theorem ranks_ok : ∀ l n Q E, tfRanks l n Q E → bodyTF 7 (b__law_ranks tfOne) l n Q E := by
  intro l n Q E ⟨s, e, h4, hb, hn, q⟩
  subst e
  show b__law_ranks tfOne E ⟨fun _ m => Q .non m, Q, fun _ _ => False, fun _ _ => False⟩ [some (.d .pen), some (.d (dInts s)), none, none, none, none, none] n
  unfold b__law_ranks
  repeat' fail
  unfold dInts
  repeat' fail
  refine ⟨of_decide_eq_true rfl, ev_some.mpr (ev_some.mpr ?_)⟩
  have s24 := sum_24 h4 hb
  show dSeq _ _ _ [some (.d .pen), some (.d (dInts s)), some (.own (s.map .int)), some (.own (([] : List Job).map dJob)), none, none, none] n
  -- the turns
  have turns : ∀ (k : Nat) (L : List Int) (row : List Job) (m : Nat) (a b c : Option S), RkInv s L row → L.sum ≤ k → n ≤ m → (m : Int) + L.sum ≤ n + s.sum →
      dWhN (dT (d2 fGt (d1 fSumL (dOwn 2)) (dC (.int 0)))) (dSeq (dSet 4 (dCall 2 tfOne E (dCons (dVar 0) (dCons (dLc (iOwnE 2) [5, 6] (gTp (gCn (gNm 5) (gCn (gNm 6) gNl))) (dT (d2 fGt (dVar 6) (dC (.int 0)))) (dVar 5)) dNil)))) (dSeq (dApp 3 (dTup (dCons (dVar 4) (dCons (d2 fSub (d2 fIxT (dVar 1) (dVar 4)) (d2 fIxL (dOwn 2) (dVar 4))) dNil)))) (dPut 2 (dVar 4) (d2 fSub (d2 fIxL (dOwn 2) (dVar 4)) (dC (.int 1)))))) (k + 1)
        ⟨dFrz 3 (dRet (dVar 3)) ⟨fun _ m => Q .non m, Q, fun _ _ => False, fun _ _ => False⟩, Q, fun _ _ => False, fun _ _ => False⟩ [some (.d .pen), some (.d (dInts s)), some (.own (L.map .int)), some (.own (row.map dJob)), a, b, c] m := by
    intro k
    induction k with
    | zero =>
      intro L row m a b c I hk h1 h2
      show dT _ _ m _
      repeat' fail
      refine opt_of (x := .int L.sum) (by show (asIs _).map _ = _; rw [asIs_map]; rfl) ?_
      repeat' fail
      rw [decide_eq_false (by omega)]
      refine if_f ?_
      repeat' fail
      have := I.num
      have := sum_nn I.nn
      exact q row m (I.done hk) (by omega) h1 (by omega)
    | succ k ih =>
      intro L row m a b c I hk h1 h2
      show dT _ _ m _
      repeat' fail
      refine opt_of (x := .int L.sum) (by show (asIs _).map _ = _; rw [asIs_map]; rfl) ?_
      repeat' fail
      by_cases c0 : 0 < L.sum
      · rw [decide_eq_true c0]
        refine if_t ?_
        repeat' fail
        refine ownE_at rfl ?_
        rw [own_enum]
        have l4 : L.length ≤ 4 := by rw [I.len]; exact h4
        refine ⟨by rw [List.length_map, List.length_range]; omega, ?_⟩
        refine lc_filter _ (fun (p : Nat) => .int (p : Int)) (fun p => decide (0 < L.getD p 0)) _ [] (fun p hp R S' hR hS => ?_) ?_
        · refine opt_of rfl ?_
          repeat' fail
          refine bt_if (fun z => ?_) (fun z => hS z)
          repeat' fail
          exact hR z
        obtain ⟨i, hi, hpos⟩ := sum_pos I.nn c0
        refine s_nil.mpr ⟨rfl, ?_⟩
        have mem : ∀ x ∈ (([] : List D) ++ ((List.range L.length).filter fun p => decide (0 < L.getD p 0)).map fun (p : Nat) => D.int (p : Int)), ∃ (p : Nat) (hp : p < L.length), x = .int p ∧ 0 < L[p] := by
          intro x hx
          rw [List.nil_append] at hx
          obtain ⟨p, hp, rfl⟩ := List.mem_map.mp hx
          obtain ⟨hp1, hp2⟩ := List.mem_filter.mp hp
          have hp1 := List.mem_range.mp hp1
          have hp2 := of_decide_eq_true hp2
          rw [List.getD_eq_getElem?_getD, List.getElem?_eq_getElem hp1] at hp2
          exact ⟨p, hp1, rfl, hp2⟩
        refine ⟨_, rfl, fun z => ?_, ?_, by have := sum_nn I.nn; omega, fun x hx m' a1 a2 => ?_⟩
        · have y : D.int (i : Int) ∈ (([] : List D) ++ ((List.range L.length).filter fun p => decide (0 < L.getD p 0)).map fun (p : Nat) => D.int (p : Int)) := by
            rw [List.nil_append]
            refine List.mem_map.mpr ⟨i, List.mem_filter.mpr ⟨List.mem_range.mpr hi, decide_eq_true ?_⟩, rfl⟩
            rw [List.getD_eq_getElem?_getD, List.getElem?_eq_getElem hi]
            exact hpos
          rw [z] at y
          exact nomatch y
        · rw [List.nil_append, List.length_map]
          have := List.length_filter_le (fun p => decide (0 < L.getD p 0)) (List.range L.length)
          rw [List.length_range] at this
          omega
        · obtain ⟨p, hp, rfl, hpp⟩ := mem x hx
          have hps : p < s.length := by rw [← I.len]; exact hp
          repeat' fail
          unfold dInts
          refine ev_ixT.mpr (opt_of (ints_get (by omega) (by omega)) ?_)
          repeat' fail
          refine opt_of (x := .int L[p]) ?_ ?_
          · show atI (L.map D.int) (p : Int) = _
            rw [ints_get (by omega) (by omega), List.getD_eq_getElem?_getD, Int.toNat_natCast, List.getElem?_eq_getElem hp]
            rfl
          repeat' fail
          refine ⟨of_decide_eq_true rfl, ?_, ?_⟩
          · rw [List.length_map]
            have := I.num
            have := sum_nn I.nn
            omega
          refine put_at rfl ?_
          repeat' fail
          refine opt_of (x := .int L[p]) ?_ ?_
          · show atI (L.map D.int) (p : Int) = _
            rw [ints_get (by omega) (by omega), List.getD_eq_getElem?_getD, Int.toNat_natCast, List.getElem?_eq_getElem hp]
            rfl
          repeat' fail
          have ix : ixN (L.map D.int).length (p : Int) = some p := by
            unfold ixN
            rw [List.length_map, if_pos (by omega : (0 : Int) ≤ (p : Int)), if_pos (by omega : (p : Int) < (L.length : Int))]
            rfl
          rw [ix]
          refine ev_some.mpr ?_
          have st := I.step hp hpp
          have e1 : (L.map D.int).set p (.int (L[p] - 1)) = (L.set p (L[p] - 1)).map D.int := by rw [List.map_set]
          have e2 : row.map dJob ++ [D.tup [.int p, .int (s.getD (p : Int).toNat 0 - L[p])]] = (row ++ [((p : Int), s.getD p 0 - L[p])]).map dJob := by
            rw [List.map_append]
            rfl
          have := ih (L.set p (L[p] - 1)) (row ++ [((p : Int), s.getD p 0 - L[p])]) m' (some (.d (.int p))) b c st (by rw [sum_set hp]; omega) (by omega) (by rw [sum_set hp]; omega)
          rw [← e1, ← e2] at this
          exact this
      · rw [decide_eq_false c0]
        refine if_f ?_
        repeat' fail
        have := I.num
        have := sum_nn I.nn
        exact q row m (I.done (by omega)) (by omega) h1 (by omega)
  refine s_seq.mpr ⟨24 + 1, ?_⟩
  exact turns 24 s [] n none none none (RkInv.start s hb) s24 (Nat.le_refl _) (Int.le_refl _)
end Lb

set_option Elab.async false
set_option linter.all false
set_option maxRecDepth 100000
set_option maxHeartbeats 4000000
namespace Lb
open PySem L2 VD PenM Pl
local macro_rules | `(tactic| fail) => `(tactic| with_reducible first | refine s_next.mpr ?_ | refine s_seq.mpr ?_ | refine s_ifS.mpr ?_ | refine s_if.mpr ?_ | refine s_ret.mpr ?_ | refine s_T.mpr ?_ | refine s_Tr.mpr ?_ | refine s_notT.mpr ?_ | refine s_andT.mpr ?_ | refine s_orT.mpr ?_ | refine s_and.mpr ?_ | refine s_or.mpr ?_ | refine s_not.mpr ?_ | refine s_set.mpr ?_ | refine s_setO.mpr ?_ | refine s_2.mpr ?_ | refine s_1.mpr ?_ | refine s_C.mpr ?_ | refine var_at rfl ?_ | refine own_at rfl ?_ | refine s_cons.mpr ?_ | refine s_nil.mpr ?_ | refine s_call.mpr ?_ | refine s_callE.mpr ?_ | refine arg1 ?_ | refine arg2 ?_ | refine arg3 ?_ | refine arg4 ?_ | refine s_tup.mpr ?_ | refine s_lst.mpr ?_ | refine s_mt.mpr ?_ | refine s_ch.mpr ?_ | refine s_asg.mpr ?_ | refine s_par.mpr ?_ | refine s_drop.mpr ?_ | refine s_raise.mpr ?_ | refine s_iL.mpr ?_ | refine s_iT.mpr ?_ | refine s_iEL.mpr ?_ | refine s_iET.mpr ?_ | refine s_iR1.mpr ?_ | refine s_iR2.mpr ?_ | refine s_iZp.mpr ?_ | refine s_lc.mpr ?_ | refine s_for.mpr ?_ | refine s_gen.mpr ?_ | refine s_sl.mpr ?_ | refine s_no.mpr ?_ | refine s_pt.mpr ?_ | refine s_yes.mpr ?_ | refine app_at rfl ?_ | refine ext_at rfl ?_ | refine frz_at rfl ?_ | refine ev_asB.mpr ?_ | refine ev_truB ?_ | refine ev_asL.mpr ?_ | refine ev_asTp.mpr ?_ | refine ev_asI.mpr ?_ | refine ev_add.mpr ?_ | refine ev_sub.mpr ?_ | refine ev_neg.mpr ?_ | refine ev_le.mpr ?_ | refine ev_lt.mpr ?_ | refine ev_ge.mpr ?_ | refine ev_gt.mpr ?_ | refine ev_eqI.mpr ?_ | refine ev_neI.mpr ?_ | refine ev_lenT.mpr ?_ | refine ev_lenL.mpr ?_ | refine ev_toT.mpr ?_ | refine ev_toLT.mpr ?_ | refine ev_toL.mpr ?_ | refine ev_isN.mpr ?_ | refine ev_slT.mpr ?_ | refine ev_slLL.mpr ?_ | refine if_t ?_ | refine if_f ?_)

def rest_plan : TSD := (dSeq (dIfS (dAndT (dT (d2 fNe (d2 fIxT (dVar 10) (dC (.int 0))) (d2 fIxT (dVar 11) (dC (.int 0))))) (dAndT (dNotT (dTr (dVar 8))) (dT (d2 fGt (dMt fIdx (dVar 7) (dVar 10)) (dMt fIdx (dVar 7) (dVar 11)))))) (dPar 10 11 false false (dVar 11) (dVar 10)) dNext) (dIfS (dAndT (dT (d2 fNe (d2 fIxT (dVar 10) (dC (.int 0))) (d2 fIxT (dVar 11) (dC (.int 0))))) (dT (d2 fNotIn (dTup (dCons (dVar 10) (dCons (dVar 11) dNil))) (dOwn 6)))) (dApp 6 (dTup (dCons (dVar 10) (dCons (dVar 11) dNil)))) dNext))
/-! ### lists of jobs and of waits -/
theorem toPs_jobs : ∀ js : List Job, toPs (js.map dJob) = some (js.map pJob)
  | [] => rfl
  | w :: ws => by
    show toPs (dJob w :: ws.map dJob) = _
    unfold toPs
    rw [toPs_jobs ws, toP_job]
    rfl
theorem lay_jobs (js : List Job) : PyData.canLayAll0 (js.map pJob) = true := by
  induction js with
  | nil => rfl
  | cons j js ih =>
    show PyData.canLayAll0 (pJob j :: js.map pJob) = true
    rw [PyData.canLayAll0, ih]
    rfl
theorem lay_waits (js : List Wait) : PyData.canLayAll0 (js.map pWait) = true := by
  induction js with
  | nil => rfl
  | cons j js ih =>
    show PyData.canLayAll0 (pWait j :: js.map pWait) = true
    rw [PyData.canLayAll0, ih]
    rfl
theorem depth_all {α : Type} (f : α → PyData) (d : Nat) (h : ∀ a, (f a).depth ≤ d) : ∀ l : List α, PyData.depthAll (l.map f) ≤ d
  | [] => Nat.zero_le _
  | a :: l => by
    show max (f a).depth (PyData.depthAll (l.map f)) ≤ d
    exact Nat.max_le.mpr ⟨h a, depth_all f d h l⟩
theorem depth_job (j : Job) : (pJob j).depth ≤ 1 := by
  unfold pJob
  simp [PyData.depth, PyData.depthAll]
theorem shp_jobs (js : List Job) : SeqAt.shaped (.list (js.map pJob)) = true := by
  unfold SeqAt.shaped
  rw [show PyData.canLay0 (.list (js.map pJob)) = PyData.canLayAll0 (js.map pJob) from rfl, lay_jobs]
  refine decide_eq_true ?_
  show PyData.depthAll (js.map pJob) + 1 ≤ 64
  have := depth_all pJob 1 depth_job js
  omega
theorem shp_waits (js : List Wait) : SeqAt.shaped (.list (js.map pWait)) = true := by
  unfold SeqAt.shaped
  rw [show PyData.canLay0 (.list (js.map pWait)) = PyData.canLayAll0 (js.map pWait) from rfl, lay_waits]
  refine decide_eq_true ?_
  show PyData.depthAll (js.map pWait) + 1 ≤ 64
  have := depth_all pWait 2 (fun w => by rw [depth_wait]; omega) js
  omega
theorem shp_job (j : Job) : SeqAt.shaped (pJob j) = true := rfl
theorem shp_wait (w : Wait) : SeqAt.shaped (pWait w) = true := rfl
theorem ne_nil (js : List Job) : fNe (.lst (js.map dJob)) (.lst []) = some (.bl (!js.isEmpty)) := by
  unfold fNe
  rw [toP_lst (toPs_jobs js)]
  show (if (SeqAt.shaped (.list (js.map pJob)) && SeqAt.shaped (.list [])) = true then _ else _) = _
  rw [shp_jobs]
  show some (D.bl _) = some (D.bl _)
  congr 2
  cases js <;> rfl
theorem notIn_waits (w : Wait) (ws : List Wait) : fNotIn (dWait w) (.lst (ws.map dWait)) = some (.bl (!decide (w ∈ ws))) := by
  unfold fNotIn inP inL
  dsimp only
  rw [toPs_waits, toP_wait]
  dsimp only
  rw [shp_wait, shp_waits]
  show some (D.bl (!_)) = some (D.bl (!_))
  congr 3
  rw [List.any_map, Bool.eq_iff_iff, List.any_eq_true, decide_eq_true_eq]
  constructor
  · rintro ⟨v, hv, h⟩
    have h : PyData.eqv (pWait v) (pWait w) = true := h
    rw [eqv_wait, decide_eq_true_eq] at h
    subst h
    exact hv
  · intro h
    refine ⟨w, h, ?_⟩
    show PyData.eqv (pWait w) (pWait w) = true
    rw [eqv_wait, decide_eq_true_eq]
theorem idx_jobs {j : Job} {js : List Job} (h : j ∈ js) : ∃ k : Nat, fIdx (.lst (js.map dJob)) (dJob j) = some (.int k) := by
  unfold fIdx
  dsimp only
  rw [toP_lst (toPs_jobs js), toP_job]
  dsimp only
  rw [shp_job, shp_jobs]
  simp only [Bool.and_self, if_true]
  cases e : (js.map pJob).findIdx? fun z => PyData.eqv z (pJob j) with
  | some k => exact ⟨k, rfl⟩
  | none =>
    rw [List.findIdx?_eq_none_iff] at e
    have z := e (pJob j) (List.mem_map.mpr ⟨j, h, rfl⟩)
    rw [eqv_job, decide_eq_true rfl] at z
    cases z
theorem wait_D (a b : Job) : D.tup [dJob a, dJob b] = dWait (a, b) := rfl
theorem ev_job0 {j : Job} {k : D → Prop} (h : k (.int j.1)) : opt (fIxT (dJob j) (.int 0)) k := h
theorem ev_job1 {j : Job} {k : D → Prop} (h : k (.int j.2)) : opt (fIxT (dJob j) (.int 1)) k := h
theorem wait_swap {s : List Int} {a b : Job} (h : waitOf s (a, b)) : waitOf s (b, a) := ⟨h.2.1, h.1, Ne.symm h.2.2⟩
theorem rest_plan_ok {s : List Int} {ws : List Wait} {row : List Job} {w0 w1 w2 w3 w4 w5 : Option S} {w : Bool} {q : En → Nat → Prop} {r : DK} {o k : En → Nat → Prop} {a9 : Option S} {j1 j2 : Job} {m : Nat}
    (hv : j1.1 ≠ j2.1 → waitOf s (j1, j2)) (hr : j1.1 ≠ j2.1 → j1 ∈ row ∧ j2 ∈ row) (hl : ws.length ≤ 100) (hw : ∀ v ∈ ws, waitOf s v) (hn : ws.Nodup)
    (hq : ∀ (ws' : List Wait) a b c, ws'.length ≤ ws.length + 1 → (∀ v ∈ ws', waitOf s v) → ws'.Nodup → q [w0, w1, w2, w3, w4, w5, some (.own (ws'.map dWait)), some (.d (.lst (row.map dJob))), some (.d (.bl w)), a, b, c] m) :
    rest_plan ⟨q, r, o, k⟩ [w0, w1, w2, w3, w4, w5, some (.own (ws.map dWait)), some (.d (.lst (row.map dJob))), some (.d (.bl w)), a9, some (.d (dJob j1)), some (.d (dJob j2))] m := by
  -- the second if
  have last : ∀ (i1 i2 : Job) (x : Option S), (i1.1 ≠ i2.1 → waitOf s (i1, i2)) → dIfS (dAndT (dT (d2 fNe (d2 fIxT (dVar 10) (dC (.int 0))) (d2 fIxT (dVar 11) (dC (.int 0))))) (dT (d2 fNotIn (dTup (dCons (dVar 10) (dCons (dVar 11) dNil))) (dOwn 6)))) (dApp 6 (dTup (dCons (dVar 10) (dCons (dVar 11) dNil)))) dNext
      ⟨q, r, o, k⟩ [w0, w1, w2, w3, w4, w5, some (.own (ws.map dWait)), some (.d (.lst (row.map dJob))), some (.d (.bl w)), a9, some (.d (dJob i1)), some (.d (dJob i2))] m := by
    intro i1 i2 x hi
    repeat' fail
    refine ev_job0 ?_
    repeat' fail
    refine ev_job0 ?_
    repeat' fail
    by_cases c : i1.1 = i2.1
    · rw [show (!(i1.1 == i2.1)) = false by rw [c]; simp]
      refine if_f (if_f ?_)
      repeat' fail
      exact hq ws _ _ _ (by omega) hw hn
    · rw [show (!(i1.1 == i2.1)) = true by simpa using c]
      refine if_t ?_
      repeat' fail
      refine ⟨of_decide_eq_true rfl, ?_⟩
      repeat' fail
      refine opt_of (notIn_waits (i1, i2) ws) (ev_asB.mpr ?_)
      by_cases c2 : (i1, i2) ∈ ws
      · rw [decide_eq_true c2]
        refine if_f ?_
        repeat' fail
        exact hq ws _ _ _ (by omega) hw hn
      · rw [decide_eq_false c2]
        refine if_t ?_
        repeat' fail
        refine ⟨of_decide_eq_true rfl, by rw [List.length_map]; omega, ?_⟩
        have e : ws.map dWait ++ [D.tup [dJob i1, dJob i2]] = (ws ++ [(i1, i2)]).map dWait := by
          rw [List.map_append]
          rfl
        have := hq (ws ++ [(i1, i2)]) a9 (some (.d (dJob i1))) (some (.d (dJob i2))) (by rw [List.length_append, List.length_singleton]; omega) (fun v hv' => ?_) (List.nodup_append.mpr ⟨hn, by simp, fun x hx y hy => ?_⟩)
        · rw [← e] at this
          exact this
        · rcases List.mem_append.mp hv' with z | z
          · exact hw v z
          · rw [List.mem_singleton.mp z]
            exact hi c
        · rw [List.mem_singleton.mp hy]
          intro z
          rw [z] at hx
          exact c2 hx
  unfold rest_plan
  repeat' fail
  refine ev_job0 ?_
  repeat' fail
  refine ev_job0 ?_
  repeat' fail
  by_cases c : j1.1 = j2.1
  · rw [show (!(j1.1 == j2.1)) = false by rw [c]; simp]
    refine if_f (if_f ?_)
    repeat' fail
    exact last j1 j2 none hv
  · rw [show (!(j1.1 == j2.1)) = true by simpa using c]
    refine if_t ?_
    repeat' fail
    cases w with
    | true =>
      refine if_f (if_f ?_)
      refine s_next.mpr ?_
      exact last j1 j2 none hv
    | false =>
      refine if_t ?_
      repeat' fail
      obtain ⟨k1, e1⟩ := idx_jobs (hr c).1
      obtain ⟨k2, e2⟩ := idx_jobs (hr c).2
      refine opt_of e1 ?_
      repeat' fail
      refine opt_of e2 ?_
      repeat' fail
      refine bt_if (fun z => ?_) (fun z => ?_)
      · refine s_par.mpr (var_at rfl (var_at rfl (ev_some.mpr (ev_some.mpr ?_))))
        exact last j2 j1 none fun z => wait_swap (hv (Ne.symm z))
      · refine s_next.mpr ?_
        exact last j1 j2 none hv
end Lb

set_option Elab.async false
set_option linter.all false
set_option maxRecDepth 100000
set_option maxHeartbeats 4000000
namespace Lb
open PySem L2 VD PenM Pl
local macro_rules | `(tactic| fail) => `(tactic| with_reducible first | refine s_next.mpr ?_ | refine s_seq.mpr ?_ | refine s_ifS.mpr ?_ | refine s_if.mpr ?_ | refine s_ret.mpr ?_ | refine s_T.mpr ?_ | refine s_Tr.mpr ?_ | refine s_notT.mpr ?_ | refine s_andT.mpr ?_ | refine s_orT.mpr ?_ | refine s_and.mpr ?_ | refine s_or.mpr ?_ | refine s_not.mpr ?_ | refine s_set.mpr ?_ | refine s_setO.mpr ?_ | refine s_2.mpr ?_ | refine s_1.mpr ?_ | refine s_C.mpr ?_ | refine var_at rfl ?_ | refine own_at rfl ?_ | refine s_cons.mpr ?_ | refine s_nil.mpr ?_ | refine s_call.mpr ?_ | refine s_callE.mpr ?_ | refine arg1 ?_ | refine arg2 ?_ | refine arg3 ?_ | refine arg4 ?_ | refine s_tup.mpr ?_ | refine s_lst.mpr ?_ | refine s_mt.mpr ?_ | refine s_ch.mpr ?_ | refine s_asg.mpr ?_ | refine s_par.mpr ?_ | refine s_drop.mpr ?_ | refine s_raise.mpr ?_ | refine s_iL.mpr ?_ | refine s_iT.mpr ?_ | refine s_iEL.mpr ?_ | refine s_iET.mpr ?_ | refine s_iR1.mpr ?_ | refine s_iR2.mpr ?_ | refine s_iZp.mpr ?_ | refine s_lc.mpr ?_ | refine s_for.mpr ?_ | refine s_gen.mpr ?_ | refine s_sl.mpr ?_ | refine s_no.mpr ?_ | refine s_pt.mpr ?_ | refine s_yes.mpr ?_ | refine app_at rfl ?_ | refine ext_at rfl ?_ | refine frz_at rfl ?_ | refine ev_asB.mpr ?_ | refine ev_truB ?_ | refine ev_asL.mpr ?_ | refine ev_asTp.mpr ?_ | refine ev_asI.mpr ?_ | refine ev_add.mpr ?_ | refine ev_sub.mpr ?_ | refine ev_neg.mpr ?_ | refine ev_le.mpr ?_ | refine ev_lt.mpr ?_ | refine ev_ge.mpr ?_ | refine ev_gt.mpr ?_ | refine ev_eqI.mpr ?_ | refine ev_neI.mpr ?_ | refine ev_lenT.mpr ?_ | refine ev_lenL.mpr ?_ | refine ev_toT.mpr ?_ | refine ev_toLT.mpr ?_ | refine ev_toL.mpr ?_ | refine ev_isN.mpr ?_ | refine ev_slT.mpr ?_ | refine ev_slLL.mpr ?_ | refine if_t ?_ | refine if_f ?_)
/-! ### sorted, and each once -/
theorem jlt_tri (a b : Job) : jlt a b = true ∨ a = b ∨ jlt b a = true := by
  unfold jlt
  simp only [decide_eq_true_eq]
  rcases Int.lt_trichotomy a.1 b.1 with h | h | h
  · exact .inl (.inl h)
  · rcases Int.lt_trichotomy a.2 b.2 with h' | h' | h'
    · exact .inl (.inr ⟨h, h'⟩)
    · exact .inr (.inl (Prod.ext h h'))
    · exact .inr (.inr (.inr ⟨h.symm, h'⟩))
  · exact .inr (.inr (.inl h))
theorem ltW_iff {a b : Wait} : ltW a b = true ↔ (a.1.1 < b.1.1 ∨ (a.1.1 = b.1.1 ∧ (a.1.2 < b.1.2 ∨ (a.1.2 = b.1.2 ∧ (a.2.1 < b.2.1 ∨ (a.2.1 = b.2.1 ∧ a.2.2 < b.2.2)))))) := by
  unfold ltW jlt
  split
  · rename_i h
    have h1 : a.1.1 = b.1.1 := by rw [h]
    have h2 : a.1.2 = b.1.2 := by rw [h]
    rw [decide_eq_true_eq]
    omega
  · rename_i h
    have h : ¬ (a.1.1 = b.1.1 ∧ a.1.2 = b.1.2) := fun z => h (Prod.ext z.1 z.2)
    rw [decide_eq_true_eq]
    omega
theorem wait_ext {a b : Wait} (h1 : a.1.1 = b.1.1) (h2 : a.1.2 = b.1.2) (h3 : a.2.1 = b.2.1) (h4 : a.2.2 = b.2.2) : a = b := Prod.ext (Prod.ext h1 h2) (Prod.ext h3 h4)
theorem leW_iff {a b : Wait} : leW a b = true ↔ (ltW a b = true ∨ a = b) := by
  unfold leW
  rw [Bool.not_eq_true', ← Bool.not_eq_true, ltW_iff, ltW_iff]
  constructor
  · intro h
    by_cases c : a.1.1 = b.1.1 ∧ a.1.2 = b.1.2 ∧ a.2.1 = b.2.1 ∧ a.2.2 = b.2.2
    · exact .inr (wait_ext c.1 c.2.1 c.2.2.1 c.2.2.2)
    · refine .inl ?_
      omega
  · rintro (h | rfl)
    · omega
    · omega
theorem leW_total (a b : Wait) : (leW a b || leW b a) = true := by
  rw [Bool.or_eq_true, leW_iff, leW_iff, ltW_iff, ltW_iff]
  by_cases c : a.1.1 = b.1.1 ∧ a.1.2 = b.1.2 ∧ a.2.1 = b.2.1 ∧ a.2.2 = b.2.2
  · exact .inl (.inr (wait_ext c.1 c.2.1 c.2.2.1 c.2.2.2))
  · by_cases h : (a.1.1 < b.1.1 ∨ (a.1.1 = b.1.1 ∧ (a.1.2 < b.1.2 ∨ (a.1.2 = b.1.2 ∧ (a.2.1 < b.2.1 ∨ (a.2.1 = b.2.1 ∧ a.2.2 < b.2.2))))))
    · exact .inl (.inl h)
    · exact .inr (.inl (by omega))
theorem leW_trans (a b c : Wait) (h1 : leW a b = true) (h2 : leW b c = true) : leW a c = true := by
  unfold leW at *
  rw [Bool.not_eq_true', ← Bool.not_eq_true, ltW_iff] at *
  omega
theorem asc_of : ∀ {ws : List Wait}, ws.Pairwise (fun a b => leW a b = true) → ws.Nodup → ascW ws = true
  | [], _, _ => rfl
  | [_], _, _ => rfl
  | a :: b :: ws, h, hn => by
    have h1 := List.rel_of_pairwise_cons h (List.mem_cons_self : b ∈ b :: ws)
    have n1 : a ≠ b := fun z => (List.nodup_cons.mp hn).1 (by rw [z]; exact List.mem_cons_self)
    have ih := asc_of (List.Pairwise.of_cons h) (List.nodup_cons.mp hn).2
    show (ltW a b && ascW (b :: ws)) = true
    rw [ih, Bool.and_true]
    rcases leW_iff.mp h1 with z | z
    · exact z
    · exact (n1 z).elim
theorem sortW_perm (ws : List Wait) : (sortW ws).Perm ws := List.mergeSort_perm ws leW
theorem sortW_ok {s : List Int} {ws : List Wait} (h1 : ws.length ≤ 24) (h2 : ∀ w ∈ ws, waitOf s w) (h3 : ws.Nodup) : WaitsOk s (sortW ws) := by
  refine ⟨by rw [(sortW_perm ws).length_eq]; exact h1, fun w hw => h2 w ((sortW_perm ws).mem_iff.mp hw), ?_⟩
  exact asc_of (List.pairwise_mergeSort leW_trans leW_total ws) ((sortW_perm ws).nodup_iff.mpr h3)
/-! ### a drawn plan -/
def tfPlan : TF := fun l n Q _ => ∃ qs ms wn : Int, l = [.pen, .int qs, .int ms, .int wn] ∧ 1 ≤ qs ∧ qs ≤ 4 ∧ 0 ≤ ms ∧ ms ≤ 6 ∧ 0 ≤ wn ∧ wn ≤ 24 ∧ n < 800000 ∧ ∀ s ws n', PlanOk s ws → n ≤ n' → n' ≤ n + 200 → Q (dPlan s ws) n'
theorem rng_len (k : Nat) : (rngD 0 k).length = k := by
  unfold rngD
  rw [List.length_map, List.length_range]
theorem plan_ok : ∀ l n Q E, tfPlan l n Q E → bodyTF 12 (b__law_plan tfTake tfJobs tfRanks tfOne) l n Q E := by
  intro l n Q E ⟨qs, ms, wn, e, q1, q4, m0, m6, w0, w24, hn, q⟩
  subst e
  show b__law_plan tfTake tfJobs tfRanks tfOne E ⟨fun _ m => Q .non m, Q, fun _ _ => False, fun _ _ => False⟩ [some (.d .pen), some (.d (.int qs)), some (.d (.int ms)), some (.d (.int wn)), none, none, none, none, none, none, none, none] n
  unfold b__law_plan
  repeat' fail
  refine ⟨qs, rfl, by omega, by omega, by omega, fun r r0 r1 n1 a1 a2 => ?_⟩
  repeat' fail
  refine ⟨by omega, ?_⟩
  refine ⟨by rw [rng_len]; omega, ?_⟩
  -- the sizes
  refine lc_ind (J := fun xs acc m => ∃ s : List Int, acc = s.map .int ∧ (∀ x ∈ s, 0 ≤ x ∧ x < 7) ∧ s.length + xs.length = (1 + r).toNat ∧ n1 ≤ m ∧ m + xs.length ≤ n1 + (1 + r).toNat) ?_ ?_ _ _ _ ⟨[], rfl, (fun _ h => nomatch h), by rw [rng_len]; exact Nat.zero_add _, Nat.le_refl _, by rw [rng_len]; exact Nat.le_refl _⟩
  rotate_left
  · rintro x xs acc m R ⟨s, rfl, hs, hl, h1, h2⟩ hR
    rw [List.length_cons] at hl h2
    refine opt_of rfl ?_
    repeat' fail
    refine ⟨ms + 1, rfl, by omega, by omega, by omega, fun v v0 v1 m' b1 b2 => hR _ _ ⟨s ++ [v], ?_, ?_, ?_, by omega, by omega⟩⟩
    · rw [List.map_append]
      rfl
    · intro y hy
      rcases List.mem_append.mp hy with z | z
      · exact hs y z
      · rw [List.mem_singleton.mp z]
        omega
    · rw [List.length_append, List.length_singleton]
      omega
  rintro acc m ⟨s, rfl, hs, hl, h1, h2⟩
  rw [List.length_nil] at hl h2
  have sok : SizesOk s := ⟨by omega, by omega, hs⟩
  repeat' fail
  refine ⟨s, rfl, sok.2.1, hs, ?_⟩
  repeat' fail
  refine ⟨of_decide_eq_true rfl, ev_some.mpr (ev_some.mpr ?_)⟩
  repeat' fail
  refine ⟨s, rfl, sok.2.1, hs, by omega, fun row n2 hrow row24 b1 b2 => ?_⟩
  repeat' fail
  refine ⟨4, rfl, by omega, by omega, by omega, fun wl wl0 wl1 n3 c1 c2 => ?_⟩
  repeat' fail
  refine ⟨wn + 1, rfl, by omega, by omega, by omega, fun t t0 t1 n4 d1 d2 => ?_⟩
  repeat' fail
  refine ⟨by omega, ?_⟩
  refine for_ind (J := fun xs e m => ∃ (ws : List Wait) (a b c : Option S), ws.length + xs.length ≤ t.toNat ∧ (∀ v ∈ ws, waitOf s v) ∧ ws.Nodup ∧ n4 ≤ m ∧ m + 2 * xs.length ≤ n4 + 2 * t.toNat ∧
    e = [some (.d .pen), some (.d (.int qs)), some (.d (.int ms)), some (.d (.int wn)), some (.d (dInts s)), some (.d (.lst ((jobsL s).map dJob))), some (.own (ws.map dWait)), some (.d (.lst (row.map dJob))), some (.d (.bl (wl == 0))), a, b, c]) ?_ ?_ _ _ _
    ⟨[], none, none, none, by rw [rng_len]; exact Nat.le_of_eq (Nat.zero_add _), (fun _ h => nomatch h), List.nodup_nil, Nat.le_refl _, by rw [rng_len]; exact Nat.le_refl _, rfl⟩
  · rintro e m' ⟨ws, a, b, c, e1, e2, e3, e4, e5, rfl⟩
    rw [List.length_nil] at e1 e5
    repeat' fail
    refine opt_of (sort_waits ws (by omega)) ?_
    repeat' fail
    exact ⟨of_decide_eq_true rfl, q s (sortW ws) m' ⟨sok, sortW_ok (by omega) e2 e3⟩ (by omega) (by omega)⟩
  · rintro x xs e m' p ⟨ws, a, b, c, e1, e2, e3, e4, e5, rfl⟩ hp
    rw [List.length_cons] at e1 e5
    refine opt_of rfl ?_
    show dSeq _ rest_plan _ [some (.d .pen), some (.d (.int qs)), some (.d (.int ms)), some (.d (.int wn)), some (.d (dInts s)), some (.d (.lst ((jobsL s).map dJob))), some (.own (ws.map dWait)), some (.d (.lst (row.map dJob))), some (.d (.bl (wl == 0))), some (.d x), b, c] m'
    repeat' fail
    refine ⟨of_decide_eq_true rfl, opt_of (ne_nil _) (ev_asB.mpr ?_)⟩
    have l24 : (jobsL s).length ≤ 24 := by
      have := jobs_len sok.2.1 hs s.length (Nat.le_refl _)
      have := sok.2.1
      unfold jobsL
      omega
    have done : ∀ (ws' : List Wait) (a b c : Option S) (m2 : Nat), m' ≤ m2 → m2 ≤ m' + 2 → ws'.length ≤ ws.length + 1 → (∀ v ∈ ws', waitOf s v) → ws'.Nodup → p [some (.d .pen), some (.d (.int qs)), some (.d (.int ms)), some (.d (.int wn)), some (.d (dInts s)), some (.d (.lst ((jobsL s).map dJob))), some (.own (ws'.map dWait)), some (.d (.lst (row.map dJob))), some (.d (.bl (wl == 0))), a, b, c] m2 :=
      fun ws' a b c m2 g1 g2 g3 g4 g5 => hp _ _ ⟨ws', a, b, c, by omega, g4, g5, by omega, by omega, rfl⟩
    cases hj : (jobsL s).isEmpty with
    | true =>
      refine if_f ?_
      repeat' fail
      refine ⟨of_decide_eq_true rfl, ?_⟩
      repeat' fail
      refine ⟨of_decide_eq_true rfl, ⟨of_decide_eq_true rfl, opt_of rfl ?_⟩⟩
      exact rest_plan_ok (s := s) (row := row) (j1 := (0, 0)) (j2 := (0, 0)) (fun z => absurd rfl z) (fun z => absurd rfl z) (by omega) e2 e3 fun ws' a b c g1 g2 g3 => done ws' a b c _ (by omega) (by omega) g1 g2 g3
    | false =>
      have ne : (jobsL s).map dJob ≠ [] := fun z => by
        have z := List.map_eq_nil_iff.mp z
        rw [z] at hj
        cases hj
      refine if_t ?_
      repeat' fail
      refine ⟨_, rfl, ne, by rw [List.length_map]; omega, by omega, fun x1 hx1 k1 f1 f2 => ?_⟩
      repeat' fail
      refine ⟨_, rfl, ne, by rw [List.length_map]; omega, by omega, fun x2 hx2 k2 f3 f4 => ?_⟩
      obtain ⟨j1, hj1, rfl⟩ := List.mem_map.mp hx1
      obtain ⟨j2, hj2, rfl⟩ := List.mem_map.mp hx2
      have o1 := mem_jobsL.mp hj1
      have o2 := mem_jobsL.mp hj2
      refine ⟨of_decide_eq_true rfl, opt_of rfl ?_⟩
      exact rest_plan_ok (s := s) (row := row) (j1 := j1) (j2 := j2) (fun z => ⟨o1, o2, z⟩) (fun z => ⟨hrow j1 o1, hrow j2 o2⟩) (by omega) e2 e3 fun ws' a b c g1 g2 g3 => done ws' a b c _ (by omega) (by omega) g1 g2 g3
end Lb

set_option Elab.async false
set_option linter.all false
set_option maxRecDepth 100000
set_option maxHeartbeats 4000000
namespace Lb
open PySem L2 VD PenM Pl
local macro_rules | `(tactic| fail) => `(tactic| with_reducible first | refine s_next.mpr ?_ | refine s_seq.mpr ?_ | refine s_ifS.mpr ?_ | refine s_if.mpr ?_ | refine s_ret.mpr ?_ | refine s_T.mpr ?_ | refine s_Tr.mpr ?_ | refine s_notT.mpr ?_ | refine s_andT.mpr ?_ | refine s_orT.mpr ?_ | refine s_and.mpr ?_ | refine s_or.mpr ?_ | refine s_not.mpr ?_ | refine s_set.mpr ?_ | refine s_setO.mpr ?_ | refine s_2.mpr ?_ | refine s_1.mpr ?_ | refine s_C.mpr ?_ | refine var_at rfl ?_ | refine own_at rfl ?_ | refine s_cons.mpr ?_ | refine s_nil.mpr ?_ | refine s_call.mpr ?_ | refine s_callE.mpr ?_ | refine arg1 ?_ | refine arg2 ?_ | refine arg3 ?_ | refine arg4 ?_ | refine s_tup.mpr ?_ | refine s_lst.mpr ?_ | refine s_mt.mpr ?_ | refine s_ch.mpr ?_ | refine s_asg.mpr ?_ | refine s_par.mpr ?_ | refine s_drop.mpr ?_ | refine s_raise.mpr ?_ | refine s_iL.mpr ?_ | refine s_iT.mpr ?_ | refine s_iEL.mpr ?_ | refine s_iET.mpr ?_ | refine s_iR1.mpr ?_ | refine s_iR2.mpr ?_ | refine s_iZp.mpr ?_ | refine s_lc.mpr ?_ | refine s_for.mpr ?_ | refine s_gen.mpr ?_ | refine s_sl.mpr ?_ | refine s_no.mpr ?_ | refine s_pt.mpr ?_ | refine s_yes.mpr ?_ | refine app_at rfl ?_ | refine ext_at rfl ?_ | refine frz_at rfl ?_ | refine ev_asB.mpr ?_ | refine ev_truB ?_ | refine ev_asL.mpr ?_ | refine ev_asTp.mpr ?_ | refine ev_asI.mpr ?_ | refine ev_add.mpr ?_ | refine ev_sub.mpr ?_ | refine ev_neg.mpr ?_ | refine ev_le.mpr ?_ | refine ev_lt.mpr ?_ | refine ev_ge.mpr ?_ | refine ev_gt.mpr ?_ | refine ev_eqI.mpr ?_ | refine ev_neI.mpr ?_ | refine ev_lenT.mpr ?_ | refine ev_lenL.mpr ?_ | refine ev_toT.mpr ?_ | refine ev_toLT.mpr ?_ | refine ev_toL.mpr ?_ | refine ev_isN.mpr ?_ | refine ev_slT.mpr ?_ | refine ev_slLL.mpr ?_ | refine if_t ?_ | refine if_f ?_)
/-! ### turned about, both together, a dense one -/
theorem ev_pl0 {s : List Int} {ws : List Wait} {k : D → Prop} (h : k (dInts s)) : opt (fIxT (dPlan s ws) (.int 0)) k := h
theorem ev_pl1 {s : List Int} {ws : List Wait} {k : D → Prop} (h : k (dWaits ws)) : opt (fIxT (dPlan s ws) (.int 1)) k := h
theorem ev_lenI {s : List Int} {k : D → Prop} (h : k (.int s.length)) : opt (fLen (dInts s)) k := by
  unfold dInts
  refine ev_lenT.mpr ?_
  rw [List.length_map]
  exact h
theorem ev_lenW {s : List Wait} {k : D → Prop} (h : k (.int s.length)) : opt (fLen (dWaits s)) k := by
  unfold dWaits
  refine ev_lenT.mpr ?_
  rw [List.length_map]
  exact h
def tfTurned : TF := fun l n Q _ => ∃ s ws, l = [dPlan s ws] ∧ PlanOk s ws ∧ Q (dPlan s (sortW (ws.map (mirW s)))) n
theorem turned_ok : ∀ l n Q E, tfTurned l n Q E → bodyTF 7 b__law_turned l n Q E := by
  intro l n Q E ⟨s, ws, e, ok, q⟩
  subst e
  show b__law_turned E ⟨fun _ m => Q .non m, Q, fun _ _ => False, fun _ _ => False⟩ [some (.d (dPlan s ws)), none, none, none, none, none, none] n
  unfold b__law_turned
  repeat' fail
  refine ev_pl0 ?_
  repeat' fail
  refine ⟨of_decide_eq_true rfl, ev_some.mpr (ev_some.mpr ?_)⟩
  repeat' fail
  refine ev_pl1 ?_
  refine ev_asTp.mpr ?_
  refine for_ind (J := fun xs e m => m = n ∧ ∃ (us vs : List Wait) (a b c d : Option S), ws = us ++ vs ∧ xs = vs.map dWait ∧ e = [some (.d (dPlan s ws)), some (.d (dInts s)), some (.own ((us.map (mirW s)).map dWait)), a, b, c, d]) ?_ ?_ _ _ _ ⟨rfl, [], ws, none, none, none, none, rfl, rfl, rfl⟩
  · rintro e m ⟨rfl, us, vs, a, b, c, d, h1, h2, rfl⟩
    have hv : vs = [] := by
      cases vs with
      | nil => rfl
      | cons => cases h2
    rw [hv, List.append_nil] at h1
    subst h1
    repeat' fail
    refine opt_of (sort_waits _ (by rw [List.length_map]; have := ok.2.1; omega)) ?_
    repeat' fail
    exact ⟨of_decide_eq_true rfl, q⟩
  · rintro x xs e m p ⟨rfl, us, vs, a, b, c, d, h1, h2, rfl⟩ hp
    cases vs with
    | nil => cases h2
    | cons w vs =>
      injection h2 with h3 h4
      subst h3 h4
      obtain ⟨⟨a1, a2, _⟩, ⟨b1, b2, _⟩, _⟩ := ok.2.2.1 w (by rw [h1]; exact List.mem_append_right _ List.mem_cons_self)
      refine opt_of rfl ?_
      repeat' fail
      unfold dInts
      refine ev_ixT.mpr (opt_of (ints_get b1 b2) ?_)
      repeat' fail
      refine ⟨of_decide_eq_true rfl, ?_⟩
      repeat' fail
      refine ev_ixT.mpr (opt_of (ints_get a1 a2) ?_)
      repeat' fail
      have l24 : us.length ≤ 24 := by
        have := ok.2.1
        rw [h1, List.length_append] at this
        omega
      refine ⟨of_decide_eq_true rfl, of_decide_eq_true rfl, by rw [List.length_map, List.length_map]; omega, hp _ _ ⟨rfl, us ++ [w], vs, some (.d (.int w.1.1)), some (.d (.int w.1.2)), some (.d (.int w.2.1)), some (.d (.int w.2.2)), by rw [h1, List.append_assoc]; rfl, rfl, ?_⟩⟩
      have e1 : D.tup [.tup [.int w.2.1, .int (s.getD w.2.1.toNat 0 - w.2.2 - 1)], .tup [.int w.1.1, .int (s.getD w.1.1.toNat 0 - w.1.2 - 1)]] = dWait (mirW s w) := by
        unfold dWait mirW mirJ dJob
        dsimp only
        rw [show s.getD w.2.1.toNat 0 - w.2.2 - 1 = s.getD w.2.1.toNat 0 - 1 - w.2.2 by omega, show s.getD w.1.1.toNat 0 - w.1.2 - 1 = s.getD w.1.1.toNat 0 - 1 - w.1.2 by omega]
      rw [e1]
      show [some (S.d (dPlan s ws)), some (S.d (dInts s)), some (S.own ((us.map (mirW s)).map dWait ++ [dWait (mirW s w)])), _, _, _, _] = _
      rw [List.map_append, List.map_append]
      rfl
def tfBoth : TF := fun l n Q _ => ∃ s ws s' ws', l = [dPlan s ws, dPlan s' ws'] ∧ PlanOk s ws ∧ PlanOk s' ws' ∧ (tooBig s s' ws ws' → Q (.str "many") n) ∧ (¬ tooBig s s' ws ws' → Q (dPlan (s ++ s') (ws ++ ws'.map (mvW s.length))) n)
theorem both_ok : ∀ l n Q E, tfBoth l n Q E → bodyTF 8 b__law_both l n Q E := by
  intro l n Q E ⟨s, ws, s', ws', e, ok, ok', big, small⟩
  subst e
  show b__law_both E ⟨fun _ m => Q .non m, Q, fun _ _ => False, fun _ _ => False⟩ [some (.d (dPlan s ws)), some (.d (dPlan s' ws')), none, none, none, none, none, none] n
  unfold b__law_both
  repeat' fail
  refine ev_pl0 (ev_lenI ?_)
  repeat' fail
  refine ev_pl0 (ev_lenI ?_)
  repeat' fail
  by_cases c : (4 : Int) < (s.length : Int) + (s'.length : Int)
  · rw [decide_eq_true c]
    refine if_t (if_t ?_)
    repeat' fail
    exact big (.inl (by omega))
  rw [decide_eq_false c]
  refine if_f ?_
  repeat' fail
  refine ev_pl1 (ev_lenW ?_)
  repeat' fail
  refine ev_pl1 (ev_lenW ?_)
  repeat' fail
  by_cases c2 : (24 : Int) < (ws.length : Int) + (ws'.length : Int)
  · rw [decide_eq_true c2]
    refine if_t ?_
    repeat' fail
    exact big (.inr (by omega))
  rw [decide_eq_false c2]
  refine if_f ?_
  have ht : ¬ tooBig s s' ws ws' := fun z => by
    rcases z with z | z <;> omega
  repeat' fail
  refine ev_pl0 (ev_lenI ?_)
  repeat' fail
  refine ev_pl1 ?_
  unfold dWaits
  refine ev_toLT.mpr (ev_some.mpr (ev_some.mpr ?_))
  repeat' fail
  refine ev_pl1 ?_
  refine ev_asTp.mpr ?_
  refine for_ind (J := fun xs e m => m = n ∧ ∃ (us vs : List Wait) (a b c d : Option S), ws' = us ++ vs ∧ xs = vs.map dWait ∧ e = [some (.d (dPlan s ws)), some (.d (dPlan s' ws')), some (.d (.int s.length)), some (.own ((ws ++ us.map (mvW s.length)).map dWait)), a, b, c, d]) ?_ ?_ _ _ _ ⟨rfl, [], ws', none, none, none, none, rfl, rfl, by rw [List.map_nil, List.append_nil]; rfl⟩
  · rintro e m ⟨rfl, us, vs, a, b, c, d, h1, h2, rfl⟩
    have hv : vs = [] := by
      cases vs with
      | nil => rfl
      | cons => cases h2
    rw [hv, List.append_nil] at h1
    subst h1
    repeat' fail
    refine ev_pl0 ?_
    repeat' fail
    refine ev_pl0 ?_
    unfold dInts
    refine ev_catT.mpr ⟨by rw [List.length_map, List.length_map]; have := ok.1.2.1; have := ok'.1.2.1; omega, ?_⟩
    repeat' fail
    refine ⟨of_decide_eq_true rfl, ?_⟩
    have e : D.tup (s.map D.int ++ s'.map D.int) = dInts (s ++ s') := by
      unfold dInts
      rw [List.map_append]
    rw [e]
    exact small ht
  · rintro x xs e m p ⟨rfl, us, vs, a, b, c, d, h1, h2, rfl⟩ hp
    cases vs with
    | nil => cases h2
    | cons w vs =>
      injection h2 with h3 h4
      subst h3 h4
      refine opt_of rfl ?_
      repeat' fail
      have l24 : us.length ≤ 24 := by
        have := ok'.2.1
        rw [h1, List.length_append] at this
        omega
      refine ⟨of_decide_eq_true rfl, ?_⟩
      repeat' fail
      refine ⟨of_decide_eq_true rfl, of_decide_eq_true rfl, by rw [List.length_map, List.length_append, List.length_map]; have := ok.2.1; omega, hp _ _ ⟨rfl, us ++ [w], vs, some (.d (.int w.1.1)), some (.d (.int w.1.2)), some (.d (.int w.2.1)), some (.d (.int w.2.2)), by rw [h1, List.append_assoc]; rfl, rfl, ?_⟩⟩
      show [some (S.d (dPlan s ws)), some (S.d (dPlan s' ws')), some (S.d (.int s.length)), some (S.own ((ws ++ us.map (mvW s.length)).map dWait ++ [dWait (mvW s.length w)])), _, _, _, _] = _
      rw [List.map_append (l₁ := us), ← List.append_assoc, List.map_append (l₁ := ws ++ us.map (mvW s.length))]
      rfl
def denseW (k : Nat) : List Wait := (List.range k).map fun (i : Nat) => ((0, (i : Int) / 6), (1, (i : Int) % 6))
def tfDense : TF := fun l n Q _ => l = [.pen] ∧ n < 900000 ∧ ∀ ws n', PlanOk [6, 6] ws → n ≤ n' → n' ≤ n + 1 → Q (dPlan [6, 6] ws) n'
instance (s : List Int) (j : Job) : Decidable (jobOf s j) := by unfold jobOf; infer_instance
instance (s : List Int) (w : Wait) : Decidable (waitOf s w) := by unfold waitOf; infer_instance
instance (s : List Int) (w : List Wait) : Decidable (WaitsOk s w) := by unfold WaitsOk; infer_instance
instance (s : List Int) : Decidable (SizesOk s) := by unfold SizesOk; infer_instance
instance (s : List Int) (w : List Wait) : Decidable (PlanOk s w) := by unfold PlanOk; infer_instance
theorem dense_plan : ∀ r : Nat, r < 3 → PlanOk [6, 6] (denseW (11 + r)) := by decide +kernel
theorem dense_ok : ∀ l n Q E, tfDense l n Q E → bodyTF 3 (b__law_dense tfTake) l n Q E := by
  intro l n Q E ⟨e, hn, q⟩
  subst e
  show b__law_dense tfTake E ⟨fun _ m => Q .non m, Q, fun _ _ => False, fun _ _ => False⟩ [some (.d .pen), none, none] n
  unfold b__law_dense
  repeat' fail
  refine ⟨by omega, by rw [rng_len]; exact of_decide_eq_true rfl, ?_⟩
  have er : rngD 0 (36 : Int).toNat = (List.range 36).map fun (p : Nat) => D.int (p : Int) := by
    unfold rngD
    refine List.map_congr_left fun i _ => ?_
    rw [Int.zero_add]
  rw [er]
  refine lc_map _ (fun (i : Nat) => dWait ((0, (i : Int) / 6), (1, (i : Int) % 6))) _ [] (fun i hi R S' hR => ?_) ?_
  · refine opt_of rfl ?_
    repeat' fail
    refine ev_div.mpr ⟨⟨by omega, by omega⟩, ?_⟩
    repeat' fail
    refine ⟨of_decide_eq_true rfl, ?_⟩
    repeat' fail
    refine ev_mod.mpr ⟨by omega, ?_⟩
    exact ⟨of_decide_eq_true rfl, of_decide_eq_true rfl, hR⟩
  repeat' fail
  refine ⟨of_decide_eq_true rfl, ?_⟩
  repeat' fail
  refine ⟨3, rfl, by omega, by omega, by omega, fun r r0 r1 n1 a1 a2 => ?_⟩
  repeat' fail
  refine ⟨of_decide_eq_true rfl, ?_⟩
  have hr : r = ((r.toNat : Nat) : Int) := by omega
  have e2 : cutD (([] : List D) ++ (List.range 36).map fun (i : Nat) => dWait ((0, (i : Int) / 6), (1, (i : Int) % 6))) none (some (11 + r)) = (denseW (11 + r.toNat)).map dWait := by
    rw [hr, show (some (11 + ((r.toNat : Nat) : Int)) : Option Int) = some ((11 + r.toNat : Nat) : Int) by rw [Int.natCast_add]; rfl]
    unfold cutD denseW
    rw [HT.sIx_none, HT.sIx_nat, List.drop_zero, Nat.sub_zero, List.nil_append, List.length_map, List.length_range, ← List.map_take, List.take_range, List.map_map, Int.toNat_natCast]
    rw [Nat.min_eq_left (by omega : 11 + r.toNat ≤ 36), Nat.min_eq_left (by omega : 11 + r.toNat ≤ 36)]
    rfl
  rw [e2]
  have := q (denseW (11 + r.toNat)) n1 (dense_plan r.toNat (by omega)) a1 a2
  exact this
end Lb

set_option Elab.async false
set_option linter.all false
set_option maxRecDepth 100000
set_option maxHeartbeats 4000000
namespace Lb
open PySem L2 VD PenM Pl
local macro_rules | `(tactic| fail) => `(tactic| with_reducible first | refine s_next.mpr ?_ | refine s_seq.mpr ?_ | refine s_ifS.mpr ?_ | refine s_if.mpr ?_ | refine s_ret.mpr ?_ | refine s_T.mpr ?_ | refine s_Tr.mpr ?_ | refine s_notT.mpr ?_ | refine s_andT.mpr ?_ | refine s_orT.mpr ?_ | refine s_and.mpr ?_ | refine s_or.mpr ?_ | refine s_not.mpr ?_ | refine s_set.mpr ?_ | refine s_setO.mpr ?_ | refine s_2.mpr ?_ | refine s_1.mpr ?_ | refine s_C.mpr ?_ | refine var_at rfl ?_ | refine own_at rfl ?_ | refine s_cons.mpr ?_ | refine s_nil.mpr ?_ | refine s_call.mpr ?_ | refine s_callE.mpr ?_ | refine arg1 ?_ | refine arg2 ?_ | refine arg3 ?_ | refine arg4 ?_ | refine s_tup.mpr ?_ | refine s_lst.mpr ?_ | refine s_mt.mpr ?_ | refine s_ch.mpr ?_ | refine s_asg.mpr ?_ | refine s_par.mpr ?_ | refine s_drop.mpr ?_ | refine s_raise.mpr ?_ | refine s_iL.mpr ?_ | refine s_iT.mpr ?_ | refine s_iEL.mpr ?_ | refine s_iET.mpr ?_ | refine s_iR1.mpr ?_ | refine s_iR2.mpr ?_ | refine s_iZp.mpr ?_ | refine s_lc.mpr ?_ | refine s_for.mpr ?_ | refine s_gen.mpr ?_ | refine s_sl.mpr ?_ | refine s_no.mpr ?_ | refine s_pt.mpr ?_ | refine s_yes.mpr ?_ | refine app_at rfl ?_ | refine ext_at rfl ?_ | refine frz_at rfl ?_ | refine ev_asB.mpr ?_ | refine ev_truB ?_ | refine ev_asL.mpr ?_ | refine ev_asTp.mpr ?_ | refine ev_asI.mpr ?_ | refine ev_add.mpr ?_ | refine ev_sub.mpr ?_ | refine ev_neg.mpr ?_ | refine ev_le.mpr ?_ | refine ev_lt.mpr ?_ | refine ev_ge.mpr ?_ | refine ev_gt.mpr ?_ | refine ev_eqI.mpr ?_ | refine ev_neI.mpr ?_ | refine ev_lenT.mpr ?_ | refine ev_lenL.mpr ?_ | refine ev_toT.mpr ?_ | refine ev_toLT.mpr ?_ | refine ev_toL.mpr ?_ | refine ev_isN.mpr ?_ | refine ev_slT.mpr ?_ | refine ev_slLL.mpr ?_ | refine if_t ?_ | refine if_f ?_)
def b__law_error (K : PySem.W.Frag) (C_InvalidPlan : Addr) (C_Unsound : Addr) (C_InvalidMoment : Addr) (C_InvalidFlags : Addr) (C_SameQueue : Addr) (C_RingMade : Addr) (C_TooMany : Addr) (C_UnknownJob : Addr) (C_UnknownWait : Addr) (C_WaitTaken : Addr) : EK → TSD := fun E => (dSeq (dSetO 1 (dLst (dCons (dIsX K (.ref C_InvalidPlan) (dVar 0)) (dCons (dIsX K (.ref C_Unsound) (dVar 0)) (dCons (dIsX K (.ref C_InvalidMoment) (dVar 0)) dNil))))) (dSeq (dSetO 1 (d2 fCatL (dOwn 1) (dLst (dCons (dIsX K (.ref C_InvalidFlags) (dVar 0)) (dCons (dIsX K (.ref C_SameQueue) (dVar 0)) (dCons (dIsX K (.ref C_RingMade) (dVar 0)) dNil)))))) (dSeq (dSetO 1 (d2 fCatL (dOwn 1) (dLst (dCons (dIsX K (.ref C_TooMany) (dVar 0)) (dCons (dIsX K (.ref C_UnknownJob) (dVar 0)) (dCons (dIsX K (.ref C_UnknownWait) (dVar 0)) dNil)))))) (dSeq (dApp 1 (dIsX K (.ref C_WaitTaken) (dVar 0))) (dSeq (dIfS (dOrT (dT (d2 fNe (dMt fCnt (dOwn 1) (dC (.bl true))) (dC (.int 1)))) (dNotT (dTr (dIsX K (.type "ValueError") (dVar 0))))) (dRet (dC (.str "other"))) dNext) (dSeq (dSet 2 (dMt fIdx (dOwn 1) (dC (.bl true)))) (dSeq (dIfS (dT (d2 fLt (dVar 2) (dC (.int 7)))) (dRet (d2 fIxL (dLst (dCons (dC (.str "plan")) (dCons (dC (.str "unsound")) (dCons (dC (.str "moment")) (dCons (dC (.str "flags")) (dCons (dC (.str "queue")) (dCons (dC (.str "ring")) (dCons (dC (.str "many")) dNil)))))))) (dVar 2))) dNext) (dSeq (dIfS (dT (d2 fEq (dVar 2) (dC (.int 7)))) (dRet (d2 fCatS (dC (.str "job ")) (d1 fRepr (dXat K "job" (dVar 0))))) dNext) (dRet (d2 fCatS (d2 fIxL (dLst (dCons (dC (.str "wait ")) (dCons (dC (.str "taken ")) dNil))) (d2 fSub (dVar 2) (dC (.int 8)))) (d1 fRepr (dXat K "wait" (dVar 0)))))))))))))
def b__law_told (K : PySem.W.Frag) (C_PlanError : Addr) (t_mirrored : TF) (t_side_by_side : TF) (t__law_error : TF) : EK → TSD := fun E => (dSeq (dAsg (gTp (gCn (gNm 3) (gCn (gNm 4) gNl))) (dTup (dCons (dC .non) (dCons (dC .non) dNil)))) (dSeq (dSet 5 (d1 fRepr (dTup (dCons (dVar 1) (dCons (dVar 2) dNil))))) (dSeq (dTry K (.ref C_PlanError) 6 3 fun EE => (dSet 4 (dIf (dT (d2 fEq (dVar 0) (dC (.int 0)))) (dCallE 1 t_mirrored EE (dCons (dVar 1) dNil)) (dCallE 2 t_side_by_side EE (dCons (dVar 1) (dCons (dVar 2) dNil)))))) (dSeq (dIfS (dT (d2 fNe (d1 fRepr (dTup (dCons (dVar 1) (dCons (dVar 2) dNil)))) (dVar 5))) (dRet (dC (.str "changed"))) dNext) (dRet (dIf (dT (d2 fIsN (dVar 3) (dC .non))) (dVar 4) (dCall 1 t__law_error E (dCons (dVar 3) dNil))))))))

/-! ### the error's word -/
structure ErrG (K : PySem.W.Frag) (P : Addr) (c : Nat → Addr) : Prop where
  ex : ∀ i, i = 0 ∨ i = 6 → ExcC K (c i)
  is : ∀ i j, i = 0 ∨ i = 6 → j < 10 → PySem.W.kitOne K (.ref (c i)) (.ref (c j)) = some (i == j)
  ve : ∀ i, i = 0 ∨ i = 6 → PySem.W.kitOne K (.ref (c i)) (.type "ValueError") = some true
  pe : ∀ i, i = 0 ∨ i = 6 → PySem.W.exmOne K (.ref (c i)) (.ref P) = some true
def tfError (c : Nat → Addr) : TF := fun l n Q _ => ∃ i : Nat, (i = 0 ∨ i = 6) ∧ l = [.exc (c i) "" []] ∧ Q (.str (if i = 0 then "plan" else "many")) n
section
variable {K : PySem.W.Frag} {P : Addr} {c : Nat → Addr} {e : En} {n : Nat} {Q : DK}
theorem isg_at (F : ErrG K P c) {i j v : Nat} (hi : i = 0 ∨ i = 6) (hj : j < 10) (h : e[v]? = some (some (.d (.exc (c i) "" [])))) (q : Q (.bl (i == j)) n) : dIsX K (.ref (c j)) (dVar v) e n Q := var_at h ⟨_, _, _, _, rfl, F.ex i hi, F.is i j hi hj, q⟩
theorem ivg_at (F : ErrG K P c) {i v : Nat} (hi : i = 0 ∨ i = 6) (h : e[v]? = some (some (.d (.exc (c i) "" [])))) (q : Q (.bl true) n) : dIsX K (.type "ValueError") (dVar v) e n Q := var_at h ⟨_, _, _, _, rfl, F.ex i hi, F.ve i hi, q⟩
end
theorem iff_ {b : Bool} {p q : Prop} (h : b = false) (x : q) : if b = true then p else q := by
  subst h
  exact if_f x
theorem ift_ {b : Bool} {p q : Prop} (h : b = true) (x : p) : if b = true then p else q := by
  subst h
  exact if_t x
abbrev b_err (K : PySem.W.Frag) (c : Nat → Addr) := b__law_error K (c 0) (c 1) (c 2) (c 3) (c 4) (c 5) (c 6) (c 7) (c 8) (c 9)
theorem error_ok {K : PySem.W.Frag} {P : Addr} {c : Nat → Addr} (F : ErrG K P c) : ∀ l n Q E, tfError c l n Q E → bodyTF 3 (b_err K c) l n Q E := by
  intro l n Q E ⟨i, hi, e, q⟩
  subst e
  show b_err K c E ⟨fun _ m => Q .non m, Q, fun _ _ => False, fun _ _ => False⟩ [some (.d (.exc (c i) "" [])), none, none] n
  unfold b_err b__law_error
  rcases hi with rfl | rfl
  · repeat' first
      | fail
      | with_reducible refine iff_ (by with_unfolding_all rfl) ?_
      | with_reducible refine ift_ (by with_unfolding_all rfl) ?_
      | with_reducible refine isg_at F (.inl rfl) (by decide) rfl ?_
      | with_reducible refine ivg_at F (.inl rfl) rfl ?_
      | with_reducible refine ev_catL.mpr ?_
      | with_reducible refine And.intro (by with_unfolding_all exact of_decide_eq_true rfl) ?_
      | with_reducible refine opt_of (x := .int 1) (by with_unfolding_all rfl) ?_
      | with_reducible refine opt_of (x := .int 0) (by with_unfolding_all rfl) ?_
      | with_reducible refine opt_of (x := .str "plan") (by with_unfolding_all rfl) ?_
    all_goals exact q
  · repeat' first
      | fail
      | with_reducible refine iff_ (by with_unfolding_all rfl) ?_
      | with_reducible refine ift_ (by with_unfolding_all rfl) ?_
      | with_reducible refine isg_at F (.inr rfl) (by decide) rfl ?_
      | with_reducible refine ivg_at F (.inr rfl) rfl ?_
      | with_reducible refine ev_catL.mpr ?_
      | with_reducible refine And.intro (by with_unfolding_all exact of_decide_eq_true rfl) ?_
      | with_reducible refine opt_of (x := .int 1) (by with_unfolding_all rfl) ?_
      | with_reducible refine opt_of (x := .int 6) (by with_unfolding_all rfl) ?_
      | with_reducible refine opt_of (x := .str "many") (by with_unfolding_all rfl) ?_
    all_goals exact q
/-! ### what is told -/
theorem s_try {K : PySem.W.Frag} {c : Value} {i j : Nat} {tb : (En → EK) → TSD} {F : DE} {e : En} {n : Nat} : dTry K c i j tb F e n ↔ (∀ (i : Nat) (l : List D), e[i]? ≠ some (some (S.own l))) ∧ tb (catchE K c i j F) F e n := ⟨fun h => h, fun h => h⟩
theorem no_own {e : En} (h : (e.all fun s => match s with
    | some (.own _) => false
    | _ => true) = true) : ∀ (i : Nat) (l : List D), e[i]? ≠ some (some (S.own l)) := fun i l z => by
  have y := List.all_eq_true.mp h _ (List.mem_of_getElem? z)
  cases y
def tfTold (c : Nat → Addr) : TF := fun l n Q _ => ∃ (so : Int) (x y : D), l = [.int so, x, y] ∧ Fine 50 1000000 (.tup [x, y]) ∧ Pln x ∧
  ((so = 0 ∧ (∀ s ws, x = dPlan s ws → PlanOk s ws → Q (dPlan s (sortW (ws.map (mirW s)))) n) ∧ (¬ IsPlan x → Q (.str "plan") n)) ∨
   (so = 1 ∧ Pln y ∧ (¬ (IsPlan x ∧ IsPlan y) → Q (.str "plan") n) ∧ ∀ s ws s' ws', x = dPlan s ws → PlanOk s ws → y = dPlan s' ws' → PlanOk s' ws' →
    (tooBig s s' ws ws' → Q (.str "many") n) ∧ (¬ tooBig s s' ws ws' → Q (dPlan (s ++ s') (ws ++ ws'.map (mvW s.length))) n)))
theorem told_ok {K : PySem.W.Frag} {P : Addr} {c : Nat → Addr} (F : ErrG K P c) : ∀ l n Q E, tfTold c l n Q E → bodyTF 7 (b__law_told K P (tfMir (c 0)) (tfSide (c 0) (c 6)) (tfError c)) l n Q E := by
  intro l n Q E ⟨so, x, y, e, hf, px, h⟩
  subst e
  show b__law_told K P (tfMir (c 0)) (tfSide (c 0) (c 6)) (tfError c) E ⟨fun _ m => Q .non m, Q, fun _ _ => False, fun _ _ => False⟩ [some (.d (.int so)), some (.d x), some (.d y), none, none, none, none] n
  unfold b__law_told
  obtain ⟨r, er, _, rok⟩ := hf.repr (by decide) (by decide)
  repeat' fail
  refine ⟨of_decide_eq_true rfl, opt_of rfl ?_⟩
  repeat' fail
  refine ⟨of_decide_eq_true rfl, opt_of er ?_⟩
  refine s_try.mpr ⟨no_own rfl, ?_⟩
  have tail1 : ∀ (z : D) (e6 : Option S), Q z n → (dSeq (dIfS (dT (d2 fNe (d1 fRepr (dTup (dCons (dVar 1) (dCons (dVar 2) dNil)))) (dVar 5))) (dRet (dC (.str "changed"))) dNext) (dRet (dIf (dT (d2 fIsN (dVar 3) (dC .non))) (dVar 4) (dCall 1 (tfError c) E (dCons (dVar 3) dNil))))) ⟨fun _ m => Q .non m, Q, fun _ _ => False, fun _ _ => False⟩ [some (.d (.int so)), some (.d x), some (.d y), some (.d .non), some (.d z), some (.d (.str r)), e6] n := by
    intro z e6 q
    repeat' fail
    refine ⟨of_decide_eq_true rfl, opt_of er ?_⟩
    repeat' fail
    refine opt_of (str_ne rok) ?_
    repeat' fail
    refine if_t ?_
    repeat' fail
    exact q
  have tail2 : ∀ (i : Nat) (e4 e6 : Option S), (i = 0 ∨ i = 6) → Q (.str (if i = 0 then "plan" else "many")) n → (dSeq (dIfS (dT (d2 fNe (d1 fRepr (dTup (dCons (dVar 1) (dCons (dVar 2) dNil)))) (dVar 5))) (dRet (dC (.str "changed"))) dNext) (dRet (dIf (dT (d2 fIsN (dVar 3) (dC .non))) (dVar 4) (dCall 1 (tfError c) E (dCons (dVar 3) dNil))))) ⟨fun _ m => Q .non m, Q, fun _ _ => False, fun _ _ => False⟩ [some (.d (.int so)), some (.d x), some (.d y), some (.d (.exc (c i) "" [])), e4, some (.d (.str r)), e6] n := by
    intro i e4 e6 hi q
    repeat' fail
    refine ⟨of_decide_eq_true rfl, opt_of er ?_⟩
    repeat' fail
    refine opt_of (str_ne rok) ?_
    repeat' fail
    refine if_f ?_
    repeat' fail
    exact ⟨i, hi, rfl, q⟩
  rcases h with ⟨rfl, h1, h2⟩ | ⟨rfl, py, h1, h2⟩
  · repeat' fail
    refine if_t ?_
    repeat' fail
    refine ⟨x, rfl, px, fun s ws e ok => tail1 _ _ (h1 s ws e ok), fun np => ⟨F.pe 0 (.inl rfl), tail2 0 _ _ (.inl rfl) (h2 np)⟩⟩
  · repeat' fail
    refine if_f ?_
    repeat' fail
    refine ⟨x, y, rfl, px, py, fun np => ⟨F.pe 0 (.inl rfl), tail2 0 _ _ (.inl rfl) (h1 np)⟩, fun s ws s' ws' e1 o1 e2 o2 => ?_⟩
    obtain ⟨a, b⟩ := h2 s ws s' ws' e1 o1 e2 o2
    exact ⟨fun z => ⟨F.pe 6 (.inr rfl), tail2 6 _ _ (.inr rfl) (a z)⟩, fun z => tail1 _ _ (b z)⟩

end Lb

set_option Elab.async false
set_option linter.all false
set_option maxRecDepth 100000
set_option maxHeartbeats 4000000
namespace Lb
open PySem L2 VD PenM Pl
local macro_rules | `(tactic| fail) => `(tactic| with_reducible first | refine s_next.mpr ?_ | refine s_seq.mpr ?_ | refine s_ifS.mpr ?_ | refine s_if.mpr ?_ | refine s_ret.mpr ?_ | refine s_T.mpr ?_ | refine s_Tr.mpr ?_ | refine s_notT.mpr ?_ | refine s_andT.mpr ?_ | refine s_orT.mpr ?_ | refine s_and.mpr ?_ | refine s_or.mpr ?_ | refine s_not.mpr ?_ | refine s_set.mpr ?_ | refine s_setO.mpr ?_ | refine s_2.mpr ?_ | refine s_1.mpr ?_ | refine s_C.mpr ?_ | refine var_at rfl ?_ | refine own_at rfl ?_ | refine s_cons.mpr ?_ | refine s_nil.mpr ?_ | refine s_call.mpr ?_ | refine s_callE.mpr ?_ | refine arg1 ?_ | refine arg2 ?_ | refine arg3 ?_ | refine arg4 ?_ | refine s_tup.mpr ?_ | refine s_lst.mpr ?_ | refine s_mt.mpr ?_ | refine s_ch.mpr ?_ | refine s_asg.mpr ?_ | refine s_par.mpr ?_ | refine s_drop.mpr ?_ | refine s_raise.mpr ?_ | refine s_iL.mpr ?_ | refine s_iT.mpr ?_ | refine s_iEL.mpr ?_ | refine s_iET.mpr ?_ | refine s_iR1.mpr ?_ | refine s_iR2.mpr ?_ | refine s_iZp.mpr ?_ | refine s_lc.mpr ?_ | refine s_for.mpr ?_ | refine s_gen.mpr ?_ | refine s_sl.mpr ?_ | refine s_no.mpr ?_ | refine s_pt.mpr ?_ | refine s_yes.mpr ?_ | refine app_at rfl ?_ | refine ext_at rfl ?_ | refine frz_at rfl ?_ | refine ev_asB.mpr ?_ | refine ev_truB ?_ | refine ev_asL.mpr ?_ | refine ev_asTp.mpr ?_ | refine ev_asI.mpr ?_ | refine ev_add.mpr ?_ | refine ev_sub.mpr ?_ | refine ev_neg.mpr ?_ | refine ev_le.mpr ?_ | refine ev_lt.mpr ?_ | refine ev_ge.mpr ?_ | refine ev_gt.mpr ?_ | refine ev_eqI.mpr ?_ | refine ev_neI.mpr ?_ | refine ev_lenT.mpr ?_ | refine ev_lenL.mpr ?_ | refine ev_toT.mpr ?_ | refine ev_toLT.mpr ?_ | refine ev_toL.mpr ?_ | refine ev_isN.mpr ?_ | refine ev_slT.mpr ?_ | refine ev_slLL.mpr ?_ | refine if_t ?_ | refine if_f ?_)
def b__law_bad_plan (t__law_one : TF) : EK → TSD := fun E => (dSeq (dAsg (gTp (gCn (gNm 2) (gCn (gNm 3) gNl))) (dVar 1)) (dSeq (dSetO 4 (dLst (dCons (dC .non) (dCons (dC (.int 7)) (dCons (dC (.bl true)) (dCons (dC (.str "plan")) (dCons (dTup dNil) (dCons (dLst (dCons (dVar 2) (dCons (dVar 3) dNil))) (dCons (dTup (dCons (dVar 2) dNil)) (dCons (dTup (dCons (dVar 2) (dCons (dVar 3) (dCons (dTup dNil) dNil)))) (dCons (dTup (dCons (d1 fToL (dVar 2)) (dCons (dVar 3) dNil))) dNil))))))))))) (dSeq (dSetO 4 (d2 fCatL (dOwn 4) (dLst (dCons (dTup (dCons (dVar 2) (dCons (d1 fToL (dVar 3)) dNil))) (dCons (dTup (dCons (dTup dNil) (dCons (dTup dNil) dNil))) (dCons (dTup (dCons (d2 fRepT (dTup (dCons (dC (.int 1)) dNil)) (dC (.int 5))) (dCons (dTup dNil) dNil))) (dCons (dTup (dCons (dTup (dCons (dC (.int 7)) dNil)) (dCons (dTup dNil) dNil))) (dCons (dTup (dCons (dTup (dCons (d1 fNeg (dC (.int 1))) dNil)) (dCons (dTup dNil) dNil))) (dCons (dTup (dCons (dTup (dCons (dC (.bl true)) dNil)) (dCons (dTup dNil) dNil))) (dCons (dTup (dCons (dTup (dCons (dC (.str "1")) dNil)) (dCons (dTup dNil) dNil))) dNil)))))))))) (dSeq (dSetO 4 (d2 fCatL (dOwn 4) (dLst (dCons (dTup (dCons (dTup (dCons (dC (.int 1)) (dCons (dC (.int 1)) dNil))) (dCons (dTup (dCons (dTup (dCons (dTup (dCons (dC (.int 0)) (dCons (dC (.int 0)) dNil))) (dCons (dTup (dCons (dC (.int 0)) (dCons (dC (.int 0)) dNil))) dNil))) dNil)) dNil))) (dCons (dTup (dCons (dTup (dCons (dC (.int 2)) (dCons (dC (.int 1)) dNil))) (dCons (dTup (dCons (dTup (dCons (dTup (dCons (dC (.int 0)) (dCons (dC (.int 0)) dNil))) (dCons (dTup (dCons (dC (.int 0)) (dCons (dC (.int 1)) dNil))) dNil))) dNil)) dNil))) (dCons (dTup (dCons (dTup (dCons (dC (.int 1)) (dCons (dC (.int 1)) dNil))) (dCons (dTup (dCons (dTup (dCons (dTup (dCons (dC (.int 0)) (dCons (dC (.int 0)) dNil))) (dCons (dTup (dCons (dC (.int 1)) (dCons (dC (.int 1)) dNil))) dNil))) dNil)) dNil))) dNil)))))) (dSeq (dSetO 4 (d2 fCatL (dOwn 4) (dLst (dCons (dTup (dCons (dTup (dCons (dC (.int 1)) (dCons (dC (.int 1)) dNil))) (dCons (d2 fRepT (dTup (dCons (dTup (dCons (dTup (dCons (dC (.int 0)) (dCons (dC (.int 0)) dNil))) (dCons (dTup (dCons (dC (.int 1)) (dCons (dC (.int 0)) dNil))) dNil))) dNil)) (dC (.int 2))) dNil))) dNil)))) (dSeq (dApp 4 (dTup (dCons (dTup (dCons (dC (.int 1)) (dCons (dC (.int 2)) dNil))) (dCons (dTup (dCons (dTup (dCons (dTup (dCons (dC (.int 0)) (dCons (dC (.int 0)) dNil))) (dCons (dTup (dCons (dC (.int 1)) (dCons (dC (.int 1)) dNil))) dNil))) (dCons (dTup (dCons (dTup (dCons (dC (.int 0)) (dCons (dC (.int 0)) dNil))) (dCons (dTup (dCons (dC (.int 1)) (dCons (dC (.int 0)) dNil))) dNil))) dNil))) dNil)))) (dSeq (dSetO 4 (d2 fCatL (dOwn 4) (dLst (dCons (dTup (dCons (dTup (dCons (dC (.int 1)) (dCons (dC (.int 1)) dNil))) (dCons (dTup (dCons (dTup (dCons (dTup (dCons (dC (.int 0)) (dCons (dC (.int 0)) dNil))) dNil)) dNil)) dNil))) dNil)))) (dSeq (dSetO 4 (d2 fCatL (dOwn 4) (dLst (dCons (dTup (dCons (dTup (dCons (dC (.int 1)) (dCons (dC (.int 1)) dNil))) (dCons (dTup (dCons (dTup (dCons (dTup (dCons (dC (.int 0)) (dCons (dC (.int 0)) dNil))) (dCons (dLst (dCons (dC (.int 1)) (dCons (dC (.int 0)) dNil))) dNil))) dNil)) dNil))) (dCons (dTup (dCons (dTup (dCons (dC (.int 1)) (dCons (dC (.int 1)) dNil))) (dCons (dTup (dCons (dTup (dCons (dC (.int 0)) (dCons (dC (.int 0)) dNil))) dNil)) dNil))) (dCons (dTup (dCons (dTup (dCons (dC (.int 1)) (dCons (dC (.int 1)) dNil))) (dCons (dTup (dCons (dTup (dCons (dTup (dCons (dC (.int 0)) (dCons (dC (.bl false)) dNil))) (dCons (dTup (dCons (dC (.int 1)) (dCons (dC (.int 0)) dNil))) dNil))) dNil)) dNil))) dNil)))))) (dSeq (dApp 4 (dTup (dCons (dTup (dCons (dC (.int 1)) (dCons (dLst (dCons (dC (.int 1)) dNil)) dNil))) (dCons (dTup dNil) dNil)))) (dSeq (dSetO 4 (d2 fCatL (dOwn 4) (dLst (dCons (dTup (dCons (dTup (dCons (dC (.int 1)) (dCons (dC (.int 1)) dNil))) (dCons (dTup (dCons (dTup (dCons (dTup (dCons (dC (.int 0)) (dCons (dC (.int 0)) dNil))) (dCons (dTup (dCons (d1 fNeg (dC (.int 1))) (dCons (dC (.int 0)) dNil))) dNil))) dNil)) dNil))) (dCons (dTup (dCons (dTup (dCons (dC (.int 1)) (dCons (dC (.int 1)) dNil))) (dCons (dTup (dCons (dLst (dCons (dTup (dCons (dC (.int 0)) (dCons (dC (.int 0)) dNil))) (dCons (dTup (dCons (dC (.int 1)) (dCons (dC (.int 0)) dNil))) dNil))) dNil)) dNil))) (dCons (dTup (dCons (dTup (dCons (dC (.int 1)) (dCons (dC (.int 1)) dNil))) (dCons (dTup (dCons (dC .non) dNil)) dNil))) dNil)))))) (dSeq (dSetO 4 (d2 fCatL (dOwn 4) (dLst (dCons (dTup (dCons (dC .non) (dCons (dTup dNil) dNil))) (dCons (dTup (dCons (dVar 2) (dCons (dC .non) dNil))) dNil))))) (dSeq (dSetO 5 (dLc (iR1 (dC (.int 25))) [6] (gNm 6) dYes (dTup (dCons (dTup (dCons (dC (.int 0)) (dCons (d2 fDiv (dVar 6) (dC (.int 6))) dNil))) (dCons (dTup (dCons (dC (.int 1)) (dCons (d2 fMod (dVar 6) (dC (.int 6))) dNil))) dNil))))) (dFrz 5 (dRet (dCall 2 t__law_one E (dCons (dVar 0) (dCons (d2 fCatL (dOwn 4) (dLst (dCons (dTup (dCons (dTup (dCons (dC (.int 6)) (dCons (dC (.int 6)) dNil))) (dCons (d1 fToT (dVar 5)) dNil))) (dCons (d2 fCatT (dSl fSlT (dVar 1) dNo (dPt (dC (.int 1)))) (dTup (dCons (d2 fCatT (dVar 3) (dTup (dCons (dTup (dCons (dTup (dCons (dC (.int 9)) (dCons (dC (.int 9)) dNil))) (dCons (dTup (dCons (dC (.int 8)) (dCons (dC (.int 8)) dNil))) dNil))) dNil))) dNil))) dNil)))) dNil)))))))))))))))))

/-! ### small plans are fine -/
def SmallJ (j : Job) : Prop := 0 ≤ j.1 ∧ j.1 < 10 ∧ 0 ≤ j.2 ∧ j.2 < 10
theorem fine_small {i : Int} (h0 : 0 ≤ i) (h1 : i < 10) : Fine 0 1 (.int i) := by
  have : i = 0 ∨ i = 1 ∨ i = 2 ∨ i = 3 ∨ i = 4 ∨ i = 5 ∨ i = 6 ∨ i = 7 ∨ i = 8 ∨ i = 9 := by omega
  rcases this with rfl | rfl | rfl | rfl | rfl | rfl | rfl | rfl | rfl | rfl <;> exact fineB_ok (by kernel_rfl)
theorem fine_job {j : Job} (h : SmallJ j) : Fine 1 10 (dJob j) := (fine_tup (m := 2) (fun y hy => by
  obtain ⟨a, b, c, d⟩ := h
  rcases List.mem_cons.mp hy with rfl | hy
  · exact fine_small a b
  · rcases List.mem_cons.mp hy with rfl | hy
    · exact fine_small c d
    · exact nomatch hy) (Nat.le_refl _)).mono (by decide) (by decide)
theorem fine_wait {w : Wait} (h : SmallJ w.1 ∧ SmallJ w.2) : Fine 2 28 (dWait w) := (fine_tup (m := 2) (fun y hy => by
  rcases List.mem_cons.mp hy with rfl | hy
  · exact fine_job h.1
  · rcases List.mem_cons.mp hy with rfl | hy
    · exact fine_job h.2
    · exact nomatch hy) (Nat.le_refl _)).mono (by decide) (by decide)
theorem fine_waits {ws : List Wait} (hl : ws.length ≤ 48) (h : ∀ w ∈ ws, SmallJ w.1 ∧ SmallJ w.2) : Fine 3 1444 (dWaits ws) := by
  unfold dWaits
  refine (fine_tup (d := 2) (L := 28) (m := 48) (fun y hy => ?_) (by rw [List.length_map]; exact hl)).mono (by decide) (by decide)
  obtain ⟨w, hw, rfl⟩ := List.mem_map.mp hy
  exact fine_wait (h w hw)
theorem fine_ints {s : List Int} (hl : s.length ≤ 8) (h : ∀ x ∈ s, 0 ≤ x ∧ x < 7) : Fine 1 28 (dInts s) := by
  unfold dInts
  refine (fine_tup (d := 0) (L := 1) (m := 8) (fun y hy => ?_) (by rw [List.length_map]; exact hl)).mono (by decide) (by decide)
  obtain ⟨w, hw, rfl⟩ := List.mem_map.mp hy
  obtain ⟨a, b⟩ := h w hw
  exact fine_small a (by omega)
theorem fine_pair {x y : D} {d L : Nat} (hx : Fine d L x) (hy : Fine d L y) : Fine (d + 1) (2 * (L + 2) + 4) (.tup [x, y]) := fine_tup (m := 2) (fun z hz => by
  rcases List.mem_cons.mp hz with rfl | hz
  · exact hx
  · rcases List.mem_cons.mp hz with rfl | hz
    · exact hy
    · exact nomatch hz) (Nat.le_refl _)
theorem fine_plan {s : List Int} {ws : List Wait} (h1 : s.length ≤ 8) (h2 : ∀ x ∈ s, 0 ≤ x ∧ x < 7) (h3 : ws.length ≤ 48) (h4 : ∀ w ∈ ws, SmallJ w.1 ∧ SmallJ w.2) : Fine 6 4000 (dPlan s ws) :=
  (fine_pair ((fine_ints h1 h2).mono (d' := 3) (L' := 1444) (by decide) (by decide)) (fine_waits h3 h4)).mono (by decide) (by decide)
theorem small_of {s : List Int} (ok : SizesOk s) {j : Job} (h : jobOf s j) : SmallJ j := by
  obtain ⟨a, b, c, d⟩ := h
  have hl := ok.2.1
  have hm : s.getD j.1.toNat 0 ∈ s := by
    rw [List.getD_eq_getElem?_getD, List.getElem?_eq_getElem (by omega : j.1.toNat < s.length)]
    exact List.getElem_mem _
  have := ok.2.2 _ hm
  exact ⟨a, by omega, c, by omega⟩
theorem small_plan {s : List Int} {ws : List Wait} (ok : PlanOk s ws) : ∀ w ∈ ws, SmallJ w.1 ∧ SmallJ w.2 := fun w hw =>
  let ⟨a, b, _⟩ := ok.2.2.1 w hw
  ⟨small_of ok.1 a, small_of ok.1 b⟩
theorem fine_ok {s : List Int} {ws : List Wait} (ok : PlanOk s ws) : Fine 6 4000 (dPlan s ws) :=
  fine_plan (by have := ok.1.2.1; omega) ok.1.2.2 (by have := ok.2.1; omega) (small_plan ok)
/-! ### values that are no plans -/
def unInts : List D → Option (List Int)
  | [] => some []
  | .int i :: l => (unInts l).map (i :: ·)
  | _ => none
def unJob : D → Option Job
  | .tup [.int a, .int b] => some (a, b)
  | _ => none
def unWaits : List D → Option (List Wait)
  | [] => some []
  | .tup [a, b] :: l => match unJob a, unJob b, unWaits l with
    | some a, some b, some l => some ((a, b) :: l)
    | _, _, _ => none
  | _ => none
theorem unInts_ok : ∀ s : List Int, unInts (s.map .int) = some s
  | [] => rfl
  | i :: s => by
    show (unInts (s.map .int)).map (i :: ·) = _
    rw [unInts_ok s]
    rfl
theorem unWaits_ok : ∀ s : List Wait, unWaits (s.map dWait) = some s
  | [] => rfl
  | ((a, b), (c, d)) :: s => by
    show (match some (a, b), some (c, d), unWaits (s.map dWait) with
      | some a, some b, some l => some ((a, b) :: l)
      | _, _, _ => none) = _
    rw [unWaits_ok s]
def isPlanB : D → Bool
  | .tup [.tup a, .tup b] => match unInts a, unWaits b with
    | some s, some ws => decide (PlanOk s ws)
    | _, _ => false
  | _ => false
theorem isPlanB_ok {x : D} (h : IsPlan x) : isPlanB x = true := by
  obtain ⟨s, ws, rfl, ok⟩ := h
  show (match unInts (s.map .int), unWaits (ws.map dWait) with
    | some s, some ws => decide (PlanOk s ws)
    | _, _ => false) = true
  rw [unInts_ok, unWaits_ok]
  exact decide_eq_true ok
def BadOk (x : D) : Prop := Fine 6 5000 x ∧ ¬ IsPlan x
theorem bad_c {x : D} (h : (fineB 6 5000 x && !isPlanB x) = true) : BadOk x := by
  obtain ⟨a, b⟩ := Bool.and_eq_true_iff.mp h
  refine ⟨fineB_ok a, fun z => ?_⟩
  rw [isPlanB_ok z] at b
  cases b
theorem bad_n {x : D} (h : Fine 6 5000 x) (b : isPlanB x = false) : BadOk x := ⟨h, fun z => by
  rw [isPlanB_ok z] at b
  cases b⟩
theorem bad_1 {x : D} {l : List D} (h : BadOk x) (h2 : ∀ y ∈ l, BadOk y) : ∀ y ∈ x :: l, BadOk y := fun y hy => by
  rcases List.mem_cons.mp hy with rfl | hy
  · exact h
  · exact h2 y hy
theorem bad_0 : ∀ y ∈ ([] : List D), BadOk y := fun _ h => nomatch h
theorem bad_a {l m : List D} (h : ∀ y ∈ l, BadOk y) (h2 : ∀ y ∈ m, BadOk y) : ∀ y ∈ l ++ m, BadOk y := fun y hy => by
  rcases List.mem_append.mp hy with hy | hy
  · exact h y hy
  · exact h2 y hy
def tfBad : TF := fun l n Q _ => ∃ s ws, l = [.pen, dPlan s ws] ∧ PlanOk s ws ∧ n < 900000 ∧ ∀ x n', BadOk x → n ≤ n' → n' ≤ n + 1 → Q x n'
theorem fine_seq {d L : Nat} {l : List D} (h : ∀ y ∈ l, Fine d L y) (hl : l.length ≤ 8) : Fine (d + 1) (8 * (L + 2) + 4) (.tup l) ∧ Fine (d + 1) (8 * (L + 2) + 4) (.lst l) := ⟨fine_tup h hl, fine_lst h hl⟩
theorem fine_3 {d L : Nat} {a b c : D} (h1 : Fine d L a) (h2 : Fine d L b) (h3 : Fine d L c) : Fine (d + 1) (3 * (L + 2) + 4) (.tup [a, b, c]) := fine_tup (m := 3) (fun z hz => by
  rcases List.mem_cons.mp hz with rfl | hz
  · exact h1
  · rcases List.mem_cons.mp hz with rfl | hz
    · exact h2
    · rcases List.mem_cons.mp hz with rfl | hz
      · exact h3
      · exact nomatch hz) (Nat.le_refl _)
theorem toL_I {s : List Int} {k : D → Prop} (h : k (.lst (s.map .int))) : opt (fToL (dInts s)) k := h
theorem toL_W {s : List Wait} {k : D → Prop} (h : k (.lst (s.map dWait))) : opt (fToL (dWaits s)) k := h
theorem sl_1 {s : List Int} {ws : List Wait} {k : D → Prop} (h : k (.tup [dInts s])) : opt (fSlT (dPlan s ws) none (some 1)) k := h
theorem cat_W {ws : List Wait} {l : List D} {k : D → Prop} (h1 : ws.length + l.length ≤ 100000) (h : k (.tup (ws.map dWait ++ l))) : opt (fCatT (dWaits ws) (.tup l)) k := by
  unfold dWaits
  exact ev_catT.mpr ⟨by rw [List.length_map]; exact h1, h⟩
section
variable {s : List Int} {ws : List Wait}
theorem fi (ok : PlanOk s ws) : Fine 3 1444 (dInts s) := (fine_ints (by have := ok.1.2.1; omega) ok.1.2.2).mono (by decide) (by decide)
theorem fw (ok : PlanOk s ws) : Fine 3 1444 (dWaits ws) := fine_waits (by have := ok.2.1; omega) (small_plan ok)
theorem fiL (ok : PlanOk s ws) : Fine 3 1444 (.lst (s.map .int)) := by
  refine (fine_lst (d := 0) (L := 1) (m := 8) (fun y hy => ?_) (by rw [List.length_map]; have := ok.1.2.1; omega)).mono (by decide) (by decide)
  obtain ⟨w, hw, rfl⟩ := List.mem_map.mp hy
  obtain ⟨a, b⟩ := ok.1.2.2 w hw
  exact fine_small a (by omega)
theorem fwL (ok : PlanOk s ws) : Fine 3 1444 (.lst (ws.map dWait)) := by
  refine (fine_lst (d := 2) (L := 28) (m := 48) (fun y hy => ?_) (by rw [List.length_map]; have := ok.2.1; omega)).mono (by decide) (by decide)
  obtain ⟨w, hw, rfl⟩ := List.mem_map.mp hy
  exact fine_wait (small_plan ok w hw)
theorem f0 {x : D} (h : fineB 3 1444 x = true) : Fine 3 1444 x := fineB_ok h
theorem b_5 (ok : PlanOk s ws) : BadOk (.lst [dInts s, dWaits ws]) := bad_n ((fine_lst (m := 2) (fun z hz => by
  rcases List.mem_cons.mp hz with rfl | hz
  · exact fi ok
  · rcases List.mem_cons.mp hz with rfl | hz
    · exact fw ok
    · exact nomatch hz) (Nat.le_refl _)).mono (by decide) (by decide)) rfl
theorem b_6 (ok : PlanOk s ws) : BadOk (.tup [dInts s]) := bad_n ((fine_tup (m := 1) (fun z hz => by
  rcases List.mem_cons.mp hz with rfl | hz
  · exact fi ok
  · exact nomatch hz) (Nat.le_refl _)).mono (by decide) (by decide)) rfl
theorem b_7 (ok : PlanOk s ws) : BadOk (.tup [dInts s, dWaits ws, .tup []]) := bad_n ((fine_3 (fi ok) (fw ok) (f0 (by kernel_rfl))).mono (by decide) (by decide)) rfl
theorem b_8 (ok : PlanOk s ws) : BadOk (.tup [.lst (s.map .int), dWaits ws]) := bad_n ((fine_pair (fiL ok) (fw ok)).mono (by decide) (by decide)) rfl
theorem b_9 (ok : PlanOk s ws) : BadOk (.tup [dInts s, .lst (ws.map dWait)]) := bad_n ((fine_pair (fi ok) (fwL ok)).mono (by decide) (by decide)) rfl
theorem b_10 (ok : PlanOk s ws) : BadOk (.tup [dInts s, .non]) := bad_n ((fine_pair (fi ok) (f0 (by kernel_rfl))).mono (by decide) (by decide)) rfl
theorem b_98 (ok : PlanOk s ws) : BadOk (.tup ([dInts s] ++ [.tup (ws.map dWait ++ [.tup [.tup [.int 9, .int 9], .tup [.int 8, .int 8]]])])) := by
  have e0 : D.tup ([dInts s] ++ [.tup (ws.map dWait ++ [.tup [.tup [.int 9, .int 9], .tup [.int 8, .int 8]]])]) = dPlan s (ws ++ [((9, 9), (8, 8))]) := by
    unfold dPlan dWaits
    rw [List.map_append]
    rfl
  rw [e0]
  refine ⟨(fine_plan (by have := ok.1.2.1; omega) ok.1.2.2 (by rw [List.length_append]; have := ok.2.1; simp; omega) fun w hw => ?_).mono (by decide) (by decide), ?_⟩
  · rcases List.mem_append.mp hw with hw | hw
    · exact small_plan ok w hw
    · rw [List.mem_singleton] at hw
      subst hw
      exact ⟨⟨by decide, by decide, by decide, by decide⟩, ⟨by decide, by decide, by decide, by decide⟩⟩
  · rintro ⟨s', ws', e, ok'⟩
    obtain ⟨e1, e2⟩ := dPlan_inj e
    subst e1 e2
    obtain ⟨⟨_, h, _⟩, _⟩ := ok'.2.2.1 ((9, 9), (8, 8)) (List.mem_append_right _ List.mem_cons_self)
    have := ok.1.2.1
    dsimp only at h
    omega
end
def w0 : D := .tup [.tup [.int 0, .int 0], .tup [.int 1, .int 0]]
def badL (s : List Int) (ws : List Wait) : List D := [.non, .int 7, .bl true, .str "plan", .tup [], .lst [dInts s, dWaits ws], .tup [dInts s], .tup [dInts s, dWaits ws, .tup []], .tup [.lst (s.map .int), dWaits ws],
  .tup [dInts s, .lst (ws.map dWait)], .tup [.tup [], .tup []], .tup [.tup [.int 1, .int 1, .int 1, .int 1, .int 1], .tup []], .tup [.tup [.int 7], .tup []], .tup [.tup [.int (-1)], .tup []], .tup [.tup [.bl true], .tup []], .tup [.tup [.str "1"], .tup []],
  .tup [.tup [.int 1, .int 1], .tup [.tup [.tup [.int 0, .int 0], .tup [.int 0, .int 0]]]], .tup [.tup [.int 2, .int 1], .tup [.tup [.tup [.int 0, .int 0], .tup [.int 0, .int 1]]]], .tup [.tup [.int 1, .int 1], .tup [.tup [.tup [.int 0, .int 0], .tup [.int 1, .int 1]]]],
  .tup [.tup [.int 1, .int 1], .tup [w0, w0]],
  .tup [.tup [.int 1, .int 2], .tup [.tup [.tup [.int 0, .int 0], .tup [.int 1, .int 1]], w0]],
  .tup [.tup [.int 1, .int 1], .tup [.tup [.tup [.int 0, .int 0]]]],
  .tup [.tup [.int 1, .int 1], .tup [.tup [.tup [.int 0, .int 0], .lst [.int 1, .int 0]]]], .tup [.tup [.int 1, .int 1], .tup [.tup [.int 0, .int 0]]], .tup [.tup [.int 1, .int 1], .tup [.tup [.tup [.int 0, .bl false], .tup [.int 1, .int 0]]]],
  .tup [.tup [.int 1, .lst [.int 1]], .tup []],
  .tup [.tup [.int 1, .int 1], .tup [.tup [.tup [.int 0, .int 0], .tup [.int (-1), .int 0]]]], .tup [.tup [.int 1, .int 1], .tup [.lst [.tup [.int 0, .int 0], .tup [.int 1, .int 0]]]], .tup [.tup [.int 1, .int 1], .tup [.non]],
  .tup [.non, .tup []], .tup [dInts s, .non],
  .tup [.tup [.int 6, .int 6], .tup ([] ++ (List.range 25).map fun (i : Nat) => dWait ((0, (i : Int) / 6), (1, (i : Int) % 6)))], .tup ([dInts s] ++ [.tup (ws.map dWait ++ [.tup [.tup [.int 9, .int 9], .tup [.int 8, .int 8]]])])]
instance (j : Job) : Decidable (SmallJ j) := by unfold SmallJ; infer_instance
def w25 : List Wait := (List.range 25).map fun (i : Nat) => ((0, (i : Int) / 6), (1, (i : Int) % 6))
theorem b_25 : BadOk (.tup [.tup [.int 6, .int 6], .tup ([] ++ (List.range 25).map fun (i : Nat) => dWait ((0, (i : Int) / 6), (1, (i : Int) % 6)))]) := by
  have e0 : D.tup [.tup [.int 6, .int 6], .tup ([] ++ (List.range 25).map fun (i : Nat) => dWait ((0, (i : Int) / 6), (1, (i : Int) % 6)))] = dPlan [6, 6] w25 := by
    unfold dPlan dWaits w25
    rw [List.map_map]
    rfl
  rw [e0]
  refine ⟨(fine_plan (by decide) (by decide) (by decide) (by decide +kernel)).mono (by decide) (by decide), fun z => ?_⟩
  have := isPlanB_ok z
  revert this
  rw [← e0, show isPlanB _ = false from by kernel_rfl]
  exact Bool.false_ne_true
theorem bad_all {s : List Int} {ws : List Wait} (ok : PlanOk s ws) : ∀ x ∈ badL s ws, BadOk x := by
  unfold badL
  repeat' with_reducible first
    | refine bad_1 ?_ ?_
    | exact bad_0
  all_goals with_reducible first
    | exact b_5 ok
    | exact b_6 ok
    | exact b_7 ok
    | exact b_8 ok
    | exact b_9 ok
    | exact b_10 ok
    | exact b_98 ok
    | exact b_25
    | exact bad_c (by kernel_rfl)
theorem bad_plan_ok : ∀ l n Q E, tfBad l n Q E → bodyTF 7 (b__law_bad_plan tfOne) l n Q E := by
  intro l n Q E ⟨s, ws, e, ok, hn, q⟩
  subst e
  show b__law_bad_plan tfOne E ⟨fun _ m => Q .non m, Q, fun _ _ => False, fun _ _ => False⟩ [some (.d .pen), some (.d (dPlan s ws)), none, none, none, none, none] n
  unfold b__law_bad_plan
  repeat' fail
  refine opt_of rfl ?_
  repeat' first
    | fail
    | with_reducible refine And.intro (by with_unfolding_all exact of_decide_eq_true rfl) ?_
    | with_reducible refine ev_catL.mpr ?_
    | with_reducible refine toL_I ?_
    | with_reducible refine toL_W ?_
    | with_reducible refine opt_of (x := .tup [.int 1, .int 1, .int 1, .int 1, .int 1]) (by with_unfolding_all rfl) ?_
    | with_reducible refine opt_of (x := .tup [.tup [.tup [.int 0, .int 0], .tup [.int 1, .int 0]], .tup [.tup [.int 0, .int 0], .tup [.int 1, .int 0]]]) (by with_unfolding_all rfl) ?_
  have er : rngD 0 (25 : Int).toNat = (List.range 25).map fun (p : Nat) => D.int (p : Int) := by
    unfold rngD
    refine List.map_congr_left fun i _ => ?_
    rw [Int.zero_add]
  rw [er]
  refine lc_map _ (fun (i : Nat) => dWait ((0, (i : Int) / 6), (1, (i : Int) % 6))) _ [] (fun i hi R S' hR => ?_) ?_
  · refine opt_of rfl ?_
    repeat' fail
    refine ev_div.mpr ⟨⟨by omega, by omega⟩, ?_⟩
    repeat' fail
    refine ⟨of_decide_eq_true rfl, ?_⟩
    repeat' fail
    refine ev_mod.mpr ⟨by omega, ?_⟩
    exact ⟨of_decide_eq_true rfl, of_decide_eq_true rfl, hR⟩
  repeat' first
    | fail
    | with_reducible refine And.intro (by with_unfolding_all exact of_decide_eq_true rfl) ?_
    | with_reducible refine ev_catL.mpr ?_
  have lw : ws.length ≤ 24 := ok.2.1
  refine sl_1 ?_
  repeat' first
    | fail
    | with_reducible refine And.intro (by with_unfolding_all exact of_decide_eq_true rfl) ?_
    | with_reducible refine ev_catL.mpr ?_
    | with_reducible refine cat_W (by simp only [List.length_cons, List.length_nil]; omega) ?_
    | with_reducible refine ev_catT.mpr ?_
  exact ⟨badL s ws, rfl, (fun z => nomatch z), of_decide_eq_true rfl, by omega, fun x hx n1 a b => q x n1 (bad_all ok x hx) a b⟩

end Lb

set_option Elab.async false
set_option linter.all false
set_option maxRecDepth 100000
set_option maxHeartbeats 4000000
namespace M04
open PySem L2 VD PenM
/-- the text that _law_refusal makes of an error -/
def RefT (i : Nat) (fl : Str) (k : List D) (s : Str) : Prop :=
  (i < 11 ∧ k = [] ∧ fl = "" ∧ s = wrd i) ∨ (i = 22 ∧ k = [] ∧ fl = "" ∧ s = "more") ∨ (11 ≤ i ∧ i < 22 ∧ ∃ y r, k = [y] ∧ fl = fld i ∧ fRepr y = some (.str r) ∧ r.length ≤ 1000 ∧ s = wrd i ++ " " ++ r)
def tfRefusal (cls : Nat → Addr) : TF := fun l n Q _ => ∃ (i : Nat) (fl : Str) (k : List D) (s : Str), l = [.exc (cls i) fl k] ∧ RefT i fl k s ∧ Q (.str s) n
theorem wrd_len {i : Nat} (h : i < 22) : (wrd i).length ≤ 20 := by
  rcases nat22 h with rfl | rfl | rfl | rfl | rfl | rfl | rfl | rfl | rfl | rfl | rfl | rfl | rfl | rfl | rfl | rfl | rfl | rfl | rfl | rfl | rfl | rfl <;> decide +kernel
theorem wrd_len1 {i : Nat} (h : i < 22) : (wrd i ++ " ").length ≤ 40 := by
  rcases nat22 h with rfl | rfl | rfl | rfl | rfl | rfl | rfl | rfl | rfl | rfl | rfl | rfl | rfl | rfl | rfl | rfl | rfl | rfl | rfl | rfl | rfl | rfl <;> decide +kernel
theorem sp_len : (" " : Str).length = 1 := by decide +kernel
abbrev b_ref (K : PySem.W.Frag) (cls : Nat → Addr) := b__law_refusal K (cls 0) (cls 1) (cls 2) (cls 3) (cls 4) (cls 5) (cls 6) (cls 7) (cls 8) (cls 9) (cls 10) (cls 11) (cls 12) (cls 13) (cls 14) (cls 15) (cls 16) (cls 17) (cls 18) (cls 19) (cls 20) (cls 21) (cls 22)
theorem refusal_ok {K : PySem.W.Frag} {cls : Nat → Addr} (F : ErrF K cls) : ∀ l n Q E, tfRefusal cls l n Q E → bodyTF 6 (b_ref K cls (tfKept cls)) l n Q E := by
  intro l n Q E ⟨i, fl, k, s, e, hs, q⟩
  subst e
  have hi : i < 23 := by
    rcases hs with ⟨c, _⟩ | ⟨c, _⟩ | ⟨_, c, _⟩ <;> omega
  show b_ref K cls (tfKept cls) E ⟨fun _ m => Q .non m, Q, fun _ _ => False, fun _ _ => False⟩ [some (.d (.exc (cls i) fl k)), none, none, none, none, none] n
  unfold b_ref b__law_refusal
  repeat' with_reducible first
    | refine s_next.mpr ?_
    | refine s_seq.mpr ?_
    | refine s_set.mpr ?_
    | refine s_setO.mpr ?_
    | refine s_lst.mpr ?_
    | refine s_2.mpr ?_
    | refine isx_at F hi (by decide) rfl ?_
    | refine var_at rfl ?_
    | refine own_at rfl ?_
    | refine app_at rfl ?_
    | refine s_cons.mpr ?_
    | refine s_nil.mpr ?_
    | refine s_C.mpr ?_
    | refine ev_asL.mpr ?_
    | refine ev_catL.mpr ?_
    | refine And.intro (by with_unfolding_all exact Nat.le_of_ble_eq_true rfl) ?_
  refine s_ifS.mpr (s_orT.mpr (s_T.mpr (s_2.mpr (s_mt.mpr (var_at rfl (ev_asL.mpr (s_C.mpr ?_)))))))
  by_cases h22 : i = 22
  · subst h22
    refine opt_of (x := .int 0) (by exact cnt_22) (s_C.mpr (opt_of (x := .bl true) (by with_unfolding_all rfl) (ev_asB.mpr (if_t (if_t ?_)))))
    refine s_ret.mpr (s_C.mpr ?_)
    rcases hs with ⟨c, _⟩ | ⟨_, _, _, rfl⟩ | ⟨_, c, _⟩
    · omega
    · exact q
    · omega
  · have h : i < 22 := by omega
    refine opt_of (x := .int 1) (by exact cnt_ok h) (s_C.mpr (opt_of (x := .bl false) (by with_unfolding_all rfl) (ev_asB.mpr (if_f ?_))))
    refine s_orT.mpr (s_notT.mpr (s_Tr.mpr (isx_at F hi (by decide) rfl (ev_truB ?_))))
    have e22 : isv i 22 = true := by unfold isv; simp
    rw [e22]
    refine if_f (s_notT.mpr (s_Tr.mpr (isv_at F hi rfl (ev_truB (if_f ?_)))))
    repeat' with_reducible first
      | refine s_next.mpr ?_
      | refine s_seq.mpr ?_
      | refine s_set.mpr ?_
      | refine s_lst.mpr ?_
      | refine s_2.mpr ?_
      | refine var_at rfl ?_
      | refine s_cons.mpr ?_
      | refine s_nil.mpr ?_
      | refine s_C.mpr ?_
      | refine s_mt.mpr ?_
      | refine ev_asL.mpr ?_
      | refine ev_catL.mpr ?_
      | refine And.intro (by with_unfolding_all exact Nat.le_of_ble_eq_true rfl) ?_
    refine opt_of (x := .int i) (by exact idx_ok h) ?_
    refine ev_ixL.mpr (opt_of (x := .str (wrd i)) ?_ ?_)
    · rcases nat22 h with rfl | rfl | rfl | rfl | rfl | rfl | rfl | rfl | rfl | rfl | rfl | rfl | rfl | rfl | rfl | rfl | rfl | rfl | rfl | rfl | rfl | rfl <;> rfl
    refine s_ret.mpr (s_if.mpr (s_T.mpr (s_2.mpr (s_C.mpr (own_at rfl (opt_of (x := .bl (decide (i < 11))) (by exact in_ok h) (ev_asB.mpr ?_)))))))
    by_cases h11 : i < 11
    · rw [decide_eq_true h11]
      refine if_t (var_at rfl ?_)
      rcases hs with ⟨_, _, _, rfl⟩ | ⟨c, _⟩ | ⟨c, _⟩
      · exact q
      · omega
      · omega
    · rw [decide_eq_false h11]
      refine if_f (s_2.mpr (s_2.mpr (var_at rfl (s_C.mpr ?_))))
      rcases hs with ⟨c, _⟩ | ⟨c, _⟩ | ⟨_, _, y, r, rfl, rfl, er, hr, rfl⟩
      · omega
      · omega
      have w0 := wrd_len h
      have w1 := wrd_len1 h
      have w2 := sp_len
      refine cat_at (by omega) ?_
      refine s_1.mpr (s_call.mpr (s_cons.mpr (var_at rfl (s_cons.mpr (var_at rfl (s_nil.mpr ⟨rfl, i, y, by omega, h, rfl, ?_⟩))))))
      exact opt_of er (cat_at (by omega) q)
end M04

set_option Elab.async false
set_option linter.all false
set_option maxRecDepth 100000
set_option maxHeartbeats 4000000
namespace Ka
open PySem L2 VD VS PenM Pl Lb
def b_jobs_of : EK → TSD := fun E => (dRet (dLc2 (iET (dVar 0)) [1, 2, 3] (gTp (gCn (gNm 1) (gCn (gNm 2) gNl))) dYes (iR1 (dVar 2)) [3] (gNm 3) dYes (dTup (dCons (dVar 1) (dCons (dVar 3) dNil)))))
def b_jobs (t_check_plan : TF) (t_jobs_of : TF) : EK → TSD := fun E => (dSeq (dDrop (dCall 1 t_check_plan E (dCons (dVar 0) dNil))) (dRet (dCall 1 t_jobs_of E (dCons (d2 fIxT (dVar 0) (dC (.int 0))) dNil))))
def b_is_job (t_check_plan : TF) (t_has_job : TF) : EK → TSD := fun E => (dSeq (dDrop (dCall 1 t_check_plan E (dCons (dVar 0) dNil))) (dRet (dCall 2 t_has_job E (dCons (d2 fIxT (dVar 0) (dC (.int 0))) (dCons (dVar 1) dNil)))))
def b__law_sizes (t__law_take : TF) : EK → TSD := fun E => (dRet (d1 fToT (dLc (iR1 (d2 fAdd (dC (.int 1)) (dCall 2 t__law_take E (dCons (dVar 0) (dCons (dC (.int 4)) dNil))))) [2] (gNm 2) dYes (dCall 2 t__law_take E (dCons (dVar 0) (dCons (d2 fAdd (dVar 1) (dC (.int 1))) dNil))))))
def b__law_plan (t__law_sizes : TF) (t__law_one : TF) (t__law_take : TF) : EK → TSD := fun E => (dSeq (dSet 3 (dCall 2 t__law_sizes E (dCons (dVar 0) (dCons (dVar 1) dNil)))) (dSeq (dPar 4 5 true true (d1 fToL (dVar 3)) (dLst dNil)) (dSeq (dWhile (dT (d2 fNe (dLc (iOwn 4) [13] (gNm 13) (dT (d2 fGt (dVar 13) (dC (.int 0)))) (dVar 13)) (dLst dNil))) (dSeq (dSet 6 (dCall 2 t__law_one E (dCons (dVar 0) (dCons (dLc (iOwnE 4) [14, 13] (gTp (gCn (gNm 14) (gCn (gNm 13) gNl))) (dT (d2 fGt (dVar 13) (dC (.int 0)))) (dVar 14)) dNil)))) (dSeq (dApp 5 (dTup (dCons (dVar 6) (dCons (d2 fSub (d2 fIxT (dVar 3) (dVar 6)) (d2 fIxL (dOwn 4) (dVar 6))) dNil)))) (dPut 4 (dVar 6) (d2 fSub (d2 fIxL (dOwn 4) (dVar 6)) (dC (.int 1))))))) (dSeq (dSetO 7 (dLst dNil)) (dSeq (dFor (iR1 (dCall 2 t__law_take E (dCons (dVar 0) (dCons (d2 fAdd (dVar 2) (dC (.int 1))) dNil)))) (gNm 8) (dSeq (dPar 9 10 false false (dCall 2 t__law_take E (dCons (dVar 0) (dCons (d2 fAdd (d1 fLen (dOwn 5)) (dC (.int 1))) dNil))) (dCall 2 t__law_take E (dCons (dVar 0) (dCons (d2 fAdd (d1 fLen (dOwn 5)) (dC (.int 1))) dNil)))) (dSeq (dPar 11 12 false false (d2 fMin (dVar 9) (dVar 10)) (d2 fMax (dVar 9) (dVar 10))) (dIfS (dAndT (dT (d2 fLt (dVar 12) (d1 fLen (dOwn 5)))) (dT (d2 fNe (d2 fIxT (d2 fIxL (dOwn 5) (dVar 11)) (dC (.int 0))) (d2 fIxT (d2 fIxL (dOwn 5) (dVar 12)) (dC (.int 0)))))) (dApp 7 (dTup (dCons (d2 fIxL (dOwn 5) (dVar 11)) (dCons (d2 fIxL (dOwn 5) (dVar 12)) dNil)))) dNext)))) (dRet (dTup (dCons (dVar 3) (dCons (d1 fToT (d1 fSetS (dOwn 7))) dNil)))))))))
def b__law_any_plan (t__law_sizes : TF) (t__law_jobs : TF) (t__law_take : TF) (t__law_one : TF) : EK → TSD := fun E => (dSeq (dSet 3 (dCall 2 t__law_sizes E (dCons (dVar 0) (dCons (dVar 1) dNil)))) (dSeq (dPar 4 5 false true (dCall 1 t__law_jobs E (dCons (dVar 3) dNil)) (dLst dNil)) (dSeq (dFor (iR1 (dCall 2 t__law_take E (dCons (dVar 0) (dCons (d2 fAdd (dVar 2) (dC (.int 1))) dNil)))) (gNm 6) (dIfS (dT (d2 fNe (dVar 4) (dLst dNil))) (dSeq (dPar 7 8 false false (dCall 2 t__law_one E (dCons (dVar 0) (dCons (dVar 4) dNil))) (dCall 2 t__law_one E (dCons (dVar 0) (dCons (dVar 4) dNil)))) (dExt 5 (d2 fRepL (dLst (dCons (dTup (dCons (dVar 7) (dCons (dVar 8) dNil))) dNil)) (d1 fInt (d2 fNe (d2 fIxT (dVar 7) (dC (.int 0))) (d2 fIxT (dVar 8) (dC (.int 0)))))))) dNext)) (dRet (dTup (dCons (dVar 3) (dCons (d1 fToT (d1 fSetS (dOwn 5))) dNil)))))))
def b__law_bad_plan (t__law_jobs : TF) (t__law_one : TF) : EK → TSD := fun E => (dSeq (dAsg (gTp (gCn (gNm 2) (gCn (gNm 3) gNl))) (dVar 1)) (dSeq (dSet 4 (dCall 1 t__law_jobs E (dCons (dVar 2) dNil))) (dSeq (dSetO 5 (dLst (dCons (dTup (dCons (dTup (dCons (dC (.int 0)) (dCons (dC (.int 0)) dNil))) (dCons (dTup (dCons (dC (.int 0)) (dCons (dC (.int 0)) dNil))) dNil))) (dCons (dTup (dCons (dTup (dCons (dC (.int 0)) (dCons (dC (.int 0)) dNil))) (dCons (dTup (dCons (dC (.int 7)) (dCons (dC (.int 0)) dNil))) dNil))) (dCons (dTup (dCons (dTup (dCons (dC (.int 0)) (dCons (dC (.int 9)) dNil))) (dCons (dTup (dCons (dC (.int 1)) (dCons (dC (.int 0)) dNil))) dNil))) (dCons (dTup (dCons (dTup (dCons (dC (.bl true)) (dCons (dC (.int 0)) dNil))) (dCons (dTup (dCons (dC (.int 1)) (dCons (dC (.int 0)) dNil))) dNil))) (dCons (dTup (dCons (dTup (dCons (dC (.int 0)) (dCons (dC (.int 0)) dNil))) dNil)) (dCons (dC .non) (dCons (dC (.str "wait")) dNil))))))))) (dSeq (dSetO 5 (d2 fCatL (dOwn 5) (dLst (dCons (dLst (dCons (dTup (dCons (dC (.int 0)) (dCons (dC (.int 0)) dNil))) (dCons (dTup (dCons (dC (.int 1)) (dCons (dC (.int 0)) dNil))) dNil))) (dCons (dTup (dCons (dTup (dCons (dC (.int 0)) (dCons (dC (.int 0)) dNil))) (dCons (dTup (dCons (dC (.int 1)) (dCons (dC (.int 0)) dNil))) (dCons (dTup (dCons (dC (.int 2)) (dCons (dC (.int 0)) dNil))) dNil)))) (dCons (dTup (dCons (dTup (dCons (dC (.int 0)) (dCons (d1 fNeg (dC (.int 1))) dNil))) (dCons (dTup (dCons (dC (.int 1)) (dCons (dC (.int 0)) dNil))) dNil))) (dCons (dTup (dCons (dTup (dCons (dC (.int 0)) (dCons (dC .non) dNil))) (dCons (dTup (dCons (dC (.int 1)) (dCons (dC (.int 0)) dNil))) dNil))) dNil))))))) (dSeq (dApp 5 (dTup (dCons (dTup (dCons (dLst (dCons (dC (.int 0)) dNil)) (dCons (dC (.int 0)) dNil))) (dCons (dTup (dCons (dC (.int 1)) (dCons (dC (.int 0)) dNil))) dNil)))) (dSeq (dSet 6 (dLst (dCons (dC .non) (dCons (dTup dNil) (dCons (dVar 2) (dCons (d1 fToL (dVar 1)) (dCons (dTup (dCons (dVar 2) dNil)) (dCons (dTup (dCons (dVar 2) (dCons (dVar 3) (dCons (dTup dNil) dNil)))) (dCons (dTup (dCons (dVar 2) (dCons (d1 fToL (dVar 3)) dNil))) (dCons (dTup (dCons (d1 fToL (dVar 2)) (dCons (dVar 3) dNil))) dNil)))))))))) (dSeq (dSet 6 (d2 fCatL (dVar 6) (dLst (dCons (dTup (dCons (dTup dNil) (dCons (dTup dNil) dNil))) (dCons (dTup (dCons (d2 fCatT (dVar 2) (dTup (dCons (dC (.int 7)) dNil))) (dCons (dTup dNil) dNil))) (dCons (dTup (dCons (d2 fCatT (dVar 2) (dTup (dCons (d1 fNeg (dC (.int 1))) dNil))) (dCons (dTup dNil) dNil))) (dCons (dTup (dCons (d2 fRepT (dTup (dCons (dC (.int 1)) dNil)) (dC (.int 5))) (dCons (dTup dNil) dNil))) (dCons (dTup (dCons (dTup (dCons (dC (.bl true)) dNil)) (dCons (dTup dNil) dNil))) (dCons (dTup (dCons (dTup (dCons (dC .non) dNil)) (dCons (dTup dNil) dNil))) dNil))))))))) (dSeq (dSet 6 (d2 fCatL (dVar 6) (dLst (dCons (dC (.int 7)) (dCons (dC (.str "p")) dNil))))) (dFrz 5 (dSeq (dSet 6 (d2 fCatL (dVar 6) (dLst (dCons (dTup (dCons (dVar 2) (dCons (d2 fCatT (dVar 3) (dTup (dCons (dCall 2 t__law_one E (dCons (dVar 0) (dCons (dVar 5) dNil))) dNil))) dNil))) (dCons (dTup (dCons (dVar 2) (dCons (d2 fCatT (dTup (dCons (dCall 2 t__law_one E (dCons (dVar 0) (dCons (dVar 5) dNil))) dNil)) (dVar 3)) dNil))) (dCons (dTup (dCons (dVar 2) (dCons (dC .non) dNil))) dNil)))))) (dSeq (dIfS (dT (d2 fGt (d1 fLen (dVar 3)) (dC (.int 0)))) (dSet 6 (d2 fCatL (dVar 6) (dLst (dCons (dTup (dCons (dVar 2) (dCons (d2 fCatT (dVar 3) (dSl fSlT (dVar 3) (dPt (d1 fNeg (dC (.int 1)))) dNo)) dNil))) (dCons (dTup (dCons (dVar 2) (dCons (d2 fCatT (dSl fSlT (dVar 3) dNo (dPt (dC (.int 1)))) (dVar 3)) dNil))) dNil))))) dNext) (dSeq (dIfS (dT (d2 fGt (d1 fLen (dVar 3)) (dC (.int 1)))) (dSet 6 (d2 fCatL (dVar 6) (dLst (dCons (dTup (dCons (dVar 2) (dCons (d1 fBackT (dVar 3)) dNil))) (dCons (dTup (dCons (dVar 2) (dCons (d2 fCatT (d2 fCatT (dSl fSlT (dVar 3) (dPt (dC (.int 1))) (dPt (dC (.int 2)))) (dSl fSlT (dVar 3) dNo (dPt (dC (.int 1))))) (dSl fSlT (dVar 3) (dPt (dC (.int 2))) dNo)) dNil))) dNil))))) dNext) (dRet (dCall 2 t__law_one E (dCons (dVar 0) (dCons (d2 fCatL (dVar 6) (dLst (dCons (dTup (dCons (dTup (dCons (dC (.int 3)) (dCons (dC (.int 3)) dNil))) (dCons (dTup (dCons (dTup (dCons (dTup (dCons (dC (.int 0)) (dCons (dC (.int 0)) dNil))) (dCons (dTup (dCons (dC (.int 0)) (dCons (dC (.int 1)) dNil))) dNil))) dNil)) dNil))) (dCons (dTup (dCons (dTup (dCons (dLst (dCons (dC (.int 1)) dNil)) dNil)) (dCons (dTup dNil) dNil))) (dCons (dC (.bl true)) dNil))))) dNil))))))))))))))))
def b__law_is_integer : EK → TSD := fun E => (dRet (dAnd (d1 (fIsi "int") (dVar 0)) (dNot (d1 (fIsi "bool") (dVar 0)))))
def b__law_is_job (t__law_is_integer : TF) : EK → TSD := fun E => (dSeq (dIfS (dOrT (dNotT (dTr (d1 (fIsi "tuple") (dVar 1)))) (dOrT (dT (d2 fNe (d1 fLen (dVar 1)) (dC (.int 2)))) (dT (d2 fIn (dC (.bl false)) (dLc (iT (dVar 1)) [2] (gNm 2) dYes (dCall 1 t__law_is_integer E (dCons (dVar 2) dNil))))))) (dRet (dC (.bl false))) dNext) (dRet (dAnd (dCh fLe fLt (dC (.int 0)) (d2 fIxT (dVar 1) (dC (.int 0))) (d1 fLen (dVar 0))) (dCh fLe fLt (dC (.int 0)) (d2 fIxT (dVar 1) (dC (.int 1))) (d2 fIxT (dVar 0) (d2 fIxT (dVar 1) (dC (.int 0))))))))
def b__law_due (t__law_is_integer : TF) (t__law_is_job : TF) : EK → TSD := fun E => (dSeq (dIfS (dOrT (dNotT (dTr (d1 (fIsi "tuple") (dVar 0)))) (dOrT (dT (d2 fNe (d1 fLen (dVar 0)) (dC (.int 2)))) (dNotT (dTr (d1 (fIsi "tuple") (d2 fIxT (dVar 0) (dC (.int 0)))))))) (dRet (dC (.bl false))) dNext) (dSeq (dAsg (gTp (gCn (gNm 1) (gCn (gNm 2) gNl))) (dVar 0)) (dSeq (dSetO 3 (dLc (iT (dVar 1)) [5] (gNm 5) (dAndT (dTr (dCall 1 t__law_is_integer E (dCons (dVar 5) dNil))) (dT (dCh fLe fLe (dC (.int 0)) (dVar 5) (dC (.int 6))))) (dVar 5))) (dFrz 3 (dSeq (dIfS (dOrT (dNotT (dT (dCh fLe fLe (dC (.int 1)) (d1 fLen (dVar 1)) (dC (.int 4))))) (dT (d2 fLt (d1 fLen (dVar 3)) (d1 fLen (dVar 1))))) (dRet (dC (.bl false))) dNext) (dSeq (dIfS (dOrT (dNotT (dTr (d1 (fIsi "tuple") (dVar 2)))) (dT (d2 fGt (d1 fLen (dVar 2)) (dC (.int 24))))) (dRet (dC (.bl false))) dNext) (dSeq (dFor (iT (dVar 2)) (gNm 4) (dSeq (dIfS (dOrT (dNotT (dTr (d1 (fIsi "tuple") (dVar 4)))) (dOrT (dT (d2 fNe (d1 fLen (dVar 4)) (dC (.int 2)))) (dT (d2 fIn (dC (.bl false)) (dLc (iT (dVar 4)) [6] (gNm 6) dYes (dCall 2 t__law_is_job E (dCons (dVar 1) (dCons (dVar 6) dNil)))))))) (dRet (dC (.bl false))) dNext) (dIfS (dT (d2 fEq (d2 fIxT (d2 fIxT (dVar 4) (dC (.int 0))) (dC (.int 0))) (d2 fIxT (d2 fIxT (dVar 4) (dC (.int 1))) (dC (.int 0))))) (dRet (dC (.bl false))) dNext))) (dRet (d2 fEq (dLc (iR2 (dC (.int 1)) (d1 fLen (dVar 2))) [7] (gNm 7) (dT (d2 fGeX (d2 fIxT (dVar 2) (d2 fSub (dVar 7) (dC (.int 1)))) (d2 fIxT (dVar 2) (dVar 7)))) (dVar 7)) (dLst dNil))))))))))
def b__law_told (K : PySem.W.Frag) (C_PlanError : Addr) (t_jobs : TF) (t_is_job : TF) (t__law_refusal : TF) : EK → TSD := fun E => (dSeq (dAsg (gTp (gCn (gNm 2) (gCn (gNm 3) gNl))) (dTup (dCons (dC .non) (dCons (dC .non) dNil)))) (dSeq (dSet 4 (d1 fRepr (dVar 1))) (dSeq (dTry K (.ref C_PlanError) 5 2 fun EE => (dSet 3 (dIf (dT (d2 fEq (dVar 0) (dC (.int 0)))) (dCallE 1 t_jobs EE (dCons (dVar 1) dNil)) (dCallE 2 t_is_job EE (dCons (dVar 1) (dCons (dC .non) dNil)))))) (dSeq (dIfS (dT (d2 fNe (d1 fRepr (dVar 1)) (dVar 4))) (dRet (dC (.str "changed"))) dNext) (dRet (dIf (dT (d2 fIsN (dVar 2) (dC .non))) (dVar 3) (dCall 1 t__law_refusal E (dCons (dVar 2) dNil))))))))
def b__law_full : EK → TSD := fun E => (dSeq (dSetO 1 (dLc (iR1 (dC (.int 36))) [2] (gNm 2) dYes (dTup (dCons (dTup (dCons (dC (.int 0)) (dCons (d2 fDiv (dVar 2) (dC (.int 6))) dNil))) (dCons (dTup (dCons (dC (.int 1)) (dCons (d2 fMod (dVar 2) (dC (.int 6))) dNil))) dNil))))) (dFrz 1 (dRet (dTup (dCons (dTup (dCons (dC (.int 6)) (dCons (dC (.int 6)) dNil))) (dCons (d1 fToT (dSl fSlL (dVar 1) dNo (dPt (dVar 0)))) dNil))))))
def b__law_changed (t__law_take : TF) (t__law_one : TF) : EK → TSD := fun E => (dSeq (dAsg (gTp (gCn (gNm 2) (gCn (gNm 3) gNl))) (dVar 1)) (dSeq (dSet 4 (dCall 2 t__law_take E (dCons (dVar 0) (dCons (d1 fLen (dVar 2)) dNil)))) (dSeq (dSet 5 (dCall 2 t__law_one E (dCons (dVar 0) (dCons (dLst (dCons (d2 fAdd (d2 fIxT (dVar 2) (dVar 4)) (dC (.int 1))) (dCons (d2 fSub (d2 fIxT (dVar 2) (dVar 4)) (dC (.int 1))) (dCons (dC (.bl true)) (dCons (dC .non) (dCons (dC (.int 0)) (dCons (dC (.int 6)) (dCons (dC (.int 7)) (dCons (dC (.str "3")) (dCons (dTup (dCons (dC (.int 3)) dNil)) dNil)))))))))) dNil)))) (dSeq (dSetO 6 (dLst (dCons (dTup (dCons (d2 fCatT (d2 fCatT (dSl fSlT (dVar 2) dNo (dPt (dVar 4))) (dTup (dCons (dVar 5) dNil))) (dSl fSlT (dVar 2) (dPt (d2 fAdd (dVar 4) (dC (.int 1)))) dNo)) (dCons (dVar 3) dNil))) dNil))) (dSeq (dIfS (dT (d2 fNe (dVar 3) (dTup dNil))) (dSeq (dSet 7 (dCall 2 t__law_take E (dCons (dVar 0) (dCons (d1 fLen (dVar 3)) dNil)))) (dSeq (dAsg (gTp (gCn (gNm 8) (gCn (gNm 9) gNl))) (d2 fIxT (dVar 3) (dVar 7))) (dSeq (dSet 10 (dLst (dCons (dTup (dCons (d2 fIxT (dVar 8) (dC (.int 0))) (dCons (d2 fAdd (d2 fIxT (dVar 8) (dC (.int 1))) (dC (.int 1))) dNil))) (dCons (dTup (dCons (d2 fAdd (d2 fIxT (dVar 8) (dC (.int 0))) (dC (.int 1))) (dCons (d2 fIxT (dVar 8) (dC (.int 1))) dNil))) (dCons (dVar 9) (dCons (dTup (dCons (d2 fIxT (dVar 8) (dC (.int 0))) (dCons (dC (.bl true)) dNil))) (dCons (d2 fCatT (dVar 8) (dTup (dCons (dC (.int 0)) dNil))) dNil))))))) (dSeq (dSet 11 (dCall 2 t__law_one E (dCons (dVar 0) (dCons (dVar 10) dNil)))) (dSeq (dSet 12 (dCall 2 t__law_one E (dCons (dVar 0) (dCons (dLst (dCons (dTup (dCons (dVar 11) (dCons (dVar 9) dNil))) (dCons (dTup (dCons (dVar 8) (dCons (dVar 11) dNil))) (dCons (dTup (dCons (dVar 9) (dCons (dVar 8) dNil))) (dCons (dLst (dCons (dVar 8) (dCons (dVar 9) dNil))) (dCons (dTup (dCons (dVar 8) dNil)) dNil)))))) dNil)))) (dSeq (dApp 6 (dTup (dCons (dVar 2) (dCons (d2 fCatT (d2 fCatT (dSl fSlT (dVar 3) dNo (dPt (dVar 7))) (dTup (dCons (dVar 12) dNil))) (dSl fSlT (dVar 3) (dPt (d2 fAdd (dVar 7) (dC (.int 1)))) dNo)) dNil)))) (dApp 6 (dTup (dCons (dVar 2) (dCons (d1 fToT (d1 fSetS (d2 fCatT (d2 fCatT (dSl fSlT (dVar 3) dNo (dPt (dVar 7))) (dSl fSlT (dVar 3) (dPt (d2 fAdd (dVar 7) (dC (.int 1)))) dNo)) (dTup (dCons (dTup (dCons (dVar 9) (dCons (dVar 8) dNil))) dNil))))) dNil)))))))))) dNext) (dFrz 6 (dRet (dVar 6))))))))
def b__law_with_bools : EK → TSD := fun E => (dSeq (dAsg (gTp (gCn (gNm 1) (gCn (gNm 2) gNl))) (dVar 0)) (dSeq (dSetO 3 (dLst dNil)) (dSeq (dFor (iET (dVar 1)) (gTp (gCn (gNm 4) (gCn (gNm 5) gNl))) (dIfS (dT (d2 fLt (dVar 5) (dC (.int 2)))) (dApp 3 (dTup (dCons (d2 fCatT (d2 fCatT (dSl fSlT (dVar 1) dNo (dPt (dVar 4))) (dTup (dCons (d2 fEq (dVar 5) (dC (.int 1))) dNil))) (dSl fSlT (dVar 1) (dPt (d2 fAdd (dVar 4) (dC (.int 1)))) dNo)) (dCons (dVar 2) dNil)))) dNext)) (dSeq (dFor (iET (dSl fSlT (dVar 2) dNo (dPt (dC (.int 3))))) (gTp (gCn (gNm 4) (gCn (gTp (gCn (gNm 6) (gCn (gNm 7) gNl))) gNl))) (dSeq (dPar 8 9 false false (dSl fSlT (dVar 2) dNo (dPt (dVar 4))) (dSl fSlT (dVar 2) (dPt (d2 fAdd (dVar 4) (dC (.int 1)))) dNo)) (dSeq (dIfS (dT (d2 fLt (d2 fIxT (dVar 6) (dC (.int 0))) (dC (.int 2)))) (dApp 3 (dTup (dCons (dVar 1) (dCons (d2 fCatT (d2 fCatT (dVar 8) (dTup (dCons (dTup (dCons (dTup (dCons (d2 fEq (d2 fIxT (dVar 6) (dC (.int 0))) (dC (.int 1))) (dCons (d2 fIxT (dVar 6) (dC (.int 1))) dNil))) (dCons (dVar 7) dNil))) dNil))) (dVar 9)) dNil)))) dNext) (dSeq (dIfS (dT (d2 fLt (d2 fIxT (dVar 6) (dC (.int 1))) (dC (.int 2)))) (dApp 3 (dTup (dCons (dVar 1) (dCons (d2 fCatT (d2 fCatT (dVar 8) (dTup (dCons (dTup (dCons (dTup (dCons (d2 fIxT (dVar 6) (dC (.int 0))) (dCons (d2 fEq (d2 fIxT (dVar 6) (dC (.int 1))) (dC (.int 1))) dNil))) (dCons (dVar 7) dNil))) dNil))) (dVar 9)) dNil)))) dNext) (dSeq (dIfS (dT (d2 fLt (d2 fIxT (dVar 7) (dC (.int 0))) (dC (.int 2)))) (dApp 3 (dTup (dCons (dVar 1) (dCons (d2 fCatT (d2 fCatT (dVar 8) (dTup (dCons (dTup (dCons (dVar 6) (dCons (dTup (dCons (d2 fEq (d2 fIxT (dVar 7) (dC (.int 0))) (dC (.int 1))) (dCons (d2 fIxT (dVar 7) (dC (.int 1))) dNil))) dNil))) dNil))) (dVar 9)) dNil)))) dNext) (dIfS (dT (d2 fLt (d2 fIxT (dVar 7) (dC (.int 1))) (dC (.int 2)))) (dApp 3 (dTup (dCons (dVar 1) (dCons (d2 fCatT (d2 fCatT (dVar 8) (dTup (dCons (dTup (dCons (dVar 6) (dCons (dTup (dCons (d2 fIxT (dVar 7) (dC (.int 0))) (dCons (d2 fEq (d2 fIxT (dVar 7) (dC (.int 1))) (dC (.int 1))) dNil))) dNil))) dNil))) (dVar 9)) dNil)))) dNext)))))) (dFrz 3 (dRet (dVar 3)))))))
end Ka

set_option Elab.async false
set_option linter.all false
set_option maxRecDepth 100000
set_option maxHeartbeats 4000000
namespace Ka
open PySem L2 VD VS PenM Pl Lb
local macro_rules | `(tactic| fail) => `(tactic| with_reducible first | refine s_next.mpr ?_ | refine s_seq.mpr ?_ | refine s_ifS.mpr ?_ | refine s_if.mpr ?_ | refine s_ret.mpr ?_ | refine s_T.mpr ?_ | refine s_Tr.mpr ?_ | refine s_notT.mpr ?_ | refine s_andT.mpr ?_ | refine s_orT.mpr ?_ | refine s_and.mpr ?_ | refine s_or.mpr ?_ | refine s_not.mpr ?_ | refine s_set.mpr ?_ | refine s_setO.mpr ?_ | refine s_2.mpr ?_ | refine s_1.mpr ?_ | refine s_C.mpr ?_ | refine var_at rfl ?_ | refine own_at rfl ?_ | refine s_cons.mpr ?_ | refine s_nil.mpr ?_ | refine s_call.mpr ?_ | refine s_callE.mpr ?_ | refine arg1 ?_ | refine arg2 ?_ | refine arg3 ?_ | refine arg4 ?_ | refine s_tup.mpr ?_ | refine s_lst.mpr ?_ | refine s_mt.mpr ?_ | refine s_ch.mpr ?_ | refine s_asg.mpr ?_ | refine s_par.mpr ?_ | refine s_drop.mpr ?_ | refine s_raise.mpr ?_ | refine s_iL.mpr ?_ | refine s_iT.mpr ?_ | refine s_iEL.mpr ?_ | refine s_iET.mpr ?_ | refine s_iR1.mpr ?_ | refine s_iR2.mpr ?_ | refine s_iZp.mpr ?_ | refine s_lc.mpr ?_ | refine s_for.mpr ?_ | refine s_gen.mpr ?_ | refine s_sl.mpr ?_ | refine s_no.mpr ?_ | refine s_pt.mpr ?_ | refine s_yes.mpr ?_ | refine app_at rfl ?_ | refine ext_at rfl ?_ | refine frz_at rfl ?_ | refine ev_asB.mpr ?_ | refine ev_truB ?_ | refine ev_asL.mpr ?_ | refine ev_asTp.mpr ?_ | refine ev_asI.mpr ?_ | refine ev_add.mpr ?_ | refine ev_sub.mpr ?_ | refine ev_neg.mpr ?_ | refine ev_le.mpr ?_ | refine ev_lt.mpr ?_ | refine ev_ge.mpr ?_ | refine ev_gt.mpr ?_ | refine ev_eqI.mpr ?_ | refine ev_neI.mpr ?_ | refine ev_lenT.mpr ?_ | refine ev_lenL.mpr ?_ | refine ev_toT.mpr ?_ | refine ev_toLT.mpr ?_ | refine ev_toL.mpr ?_ | refine ev_isN.mpr ?_ | refine ev_slT.mpr ?_ | refine ev_slLL.mpr ?_ | refine if_t ?_ | refine if_f ?_)
local macro_rules | `(tactic| fail) => `(tactic| with_reducible first | refine ev_catL.mpr ?_ | refine ev_catT.mpr ?_ | refine s_lc2.mpr ?_ | refine s_own1.mpr ?_ | refine own_at rfl ?_ | refine s_try.mpr ?_)
/-! ### the jobs, as the program lists them -/
theorem rng_nat (k : Nat) : rngD 0 k = (List.range k).map fun (p : Nat) => D.int (p : Int) := by
  unfold rngD
  refine List.map_congr_left fun i _ => ?_
  rw [Int.zero_add]
def tfJobsOf : TF := fun l n Q _ => ∃ s : List Int, l = [dInts s] ∧ s.length ≤ 4 ∧ (∀ x ∈ s, 0 ≤ x ∧ x < 7) ∧ Q (.lst ((jobsL s).map dJob)) n
theorem jobs_of_ok : ∀ l n Q E, tfJobsOf l n Q E → bodyTFf 4 b_jobs_of l n Q E := by
  intro l n Q E ⟨s, e, h4, hb, q⟩
  subst e
  show b_jobs_of E ⟨fun _ _ => False, Q, fun _ _ => False, fun _ _ => False⟩ [some (.d (dInts s)), none, none, none] n
  unfold b_jobs_of
  repeat' fail
  refine ev_asTp.mpr ?_
  rw [enum_tup]
  refine lcO_ind (J := fun xs acc m => m = n ∧ ∃ k, k ≤ s.length ∧ xs = ((List.range s.length).drop k).map (fun (q : Nat) => D.tup [.int q, .int (s.getD q 0)]) ∧
    acc = ((List.range k).flatMap fun q => jobsQ q (s.getD q 0)).map dJob) ?_ ?_ _ _ _ ⟨rfl, 0, Nat.zero_le _, rfl, rfl⟩
  · rintro acc m ⟨rfl, k, hk, hx, rfl⟩
    have hk' : k = s.length := by
      have z := congrArg List.length hx
      rw [List.length_nil, List.length_map, List.length_drop, List.length_range] at z
      omega
    subst hk'
    exact q
  · rintro x xs acc m R ⟨rfl, k, hk, hx, rfl⟩ hR
    have hk' : k < s.length := by
      have z := congrArg List.length hx
      rw [List.length_cons, List.length_map, List.length_drop, List.length_range] at z
      omega
    rw [List.drop_eq_getElem_cons (by rw [List.length_range]; exact hk'), List.map_cons, List.getElem_range] at hx
    injection hx with e1 e2
    subst e1 e2
    refine opt_of rfl ?_
    repeat' fail
    have hv := hb (s.getD k 0) (by
      rw [List.getD_eq_getElem?_getD, List.getElem?_eq_getElem hk']
      exact List.getElem_mem _)
    refine ⟨by omega, ?_⟩
    rw [rng_nat]
    have l1 := jobs_len h4 hb k hk
    refine lcI_map _ (fun (p : Nat) => dJob ((k : Int), (p : Int))) _ _ (by rw [List.length_map, List.length_range]; omega) (fun p hp R' S' hR' => ?_) ?_
    · refine opt_of rfl ?_
      repeat' fail
      exact ⟨of_decide_eq_true rfl, hR'⟩
    refine hR _ _ ⟨rfl, k + 1, hk', rfl, ?_⟩
    rw [List.range_succ, List.flatMap_append, List.flatMap_singleton, List.map_append]
    congr 1
    unfold jobsQ
    rw [List.map_map]
    rfl
def tfJobsP (C : Addr) : TF := fun l n Q E => ∃ x, l = [x] ∧ Pln x ∧ (∀ s ws, x = dPlan s ws → PlanOk s ws → Q (.lst ((jobsL s).map dJob)) n) ∧ (¬ IsPlan x → E C "" [] n)
theorem jobs_p_ok (C : Addr) : ∀ l n Q E, tfJobsP C l n Q E → bodyTFf 1 (b_jobs (tfCheckPlan C) tfJobsOf) l n Q E := by
  intro l n Q E ⟨x, e, hp, q1, q2⟩
  subst e
  show b_jobs (tfCheckPlan C) tfJobsOf E ⟨fun _ _ => False, Q, fun _ _ => False, fun _ _ => False⟩ [some (.d x)] n
  unfold b_jobs
  repeat' fail
  refine ⟨x, rfl, hp, fun ⟨s, ws, e, ok⟩ => ?_, q2⟩
  subst e
  repeat' fail
  refine ev_pl0 ?_
  repeat' fail
  exact ⟨s, rfl, ok.1.2.1, ok.1.2.2, q1 s ws rfl ok⟩
def tfIsJob (C : Addr) : TF := fun l n Q E => ∃ x v, l = [x, v] ∧ Pln x ∧ Pln v ∧ (∀ s ws, x = dPlan s ws → PlanOk s ws → Q (.bl (hasJobD s v)) n) ∧ (¬ IsPlan x → E C "" [] n)
theorem is_job_ok (C : Addr) : ∀ l n Q E, tfIsJob C l n Q E → bodyTF 2 (b_is_job (tfCheckPlan C) tfHasJob) l n Q E := by
  intro l n Q E ⟨x, v, e, hp, hv, q1, q2⟩
  subst e
  show b_is_job (tfCheckPlan C) tfHasJob E ⟨fun _ m => Q .non m, Q, fun _ _ => False, fun _ _ => False⟩ [some (.d x), some (.d v)] n
  unfold b_is_job
  repeat' fail
  refine ⟨x, rfl, hp, fun ⟨s, ws, e, ok⟩ => ?_, q2⟩
  subst e
  repeat' fail
  refine ev_pl0 ?_
  repeat' fail
  exact ⟨s, v, rfl, hv, q1 s ws rfl ok⟩
/-! ### drawn sizes -/
def tfSizes : TF := fun l n Q _ => ∃ most : Int, l = [.pen, .int most] ∧ 0 ≤ most ∧ most ≤ 6 ∧ n < 900000 ∧ ∀ s n', SizesOk s → n ≤ n' → n' ≤ n + 5 → Q (dInts s) n'
theorem sizes_ok : ∀ l n Q E, tfSizes l n Q E → bodyTF 3 (b__law_sizes tfTake) l n Q E := by
  intro l n Q E ⟨most, e, m0, m6, hn, q⟩
  subst e
  show b__law_sizes tfTake E ⟨fun _ m => Q .non m, Q, fun _ _ => False, fun _ _ => False⟩ [some (.d .pen), some (.d (.int most)), none] n
  unfold b__law_sizes
  repeat' fail
  refine ⟨4, rfl, by omega, by omega, by omega, fun r r0 r1 n1 a1 a2 => ?_⟩
  repeat' fail
  refine ⟨by omega, ?_⟩
  refine ⟨by rw [rng_len]; omega, ?_⟩
  refine lc_ind (J := fun xs acc m => ∃ s : List Int, acc = s.map .int ∧ (∀ x ∈ s, 0 ≤ x ∧ x < 7) ∧ s.length + xs.length = (1 + r).toNat ∧ n1 ≤ m ∧ m + xs.length ≤ n1 + (1 + r).toNat) ?_ ?_ _ _ _ ⟨[], rfl, (fun _ h => nomatch h), by rw [rng_len]; exact Nat.zero_add _, Nat.le_refl _, by rw [rng_len]; exact Nat.le_refl _⟩
  rotate_left
  · rintro x xs acc m R ⟨s, rfl, hs, hl, h1, h2⟩ hR
    rw [List.length_cons] at hl h2
    refine opt_of rfl ?_
    repeat' fail
    refine ⟨most + 1, rfl, by omega, by omega, by omega, fun v v0 v1 m' b1 b2 => hR _ _ ⟨s ++ [v], ?_, ?_, ?_, by omega, by omega⟩⟩
    · rw [List.map_append]
      rfl
    · intro y hy
      rcases List.mem_append.mp hy with z | z
      · exact hs y z
      · rw [List.mem_singleton.mp z]
        omega
    · rw [List.length_append, List.length_singleton]
      omega
  rintro acc m ⟨s, rfl, hs, hl, h1, h2⟩
  rw [List.length_nil] at hl h2
  repeat' fail
  exact q s m ⟨by omega, by omega, hs⟩ (by omega) (by omega)
/-! ### whole numbers, jobs -/
def tfIsInteger : TF := fun l n Q _ => ∃ x, l = [x] ∧ Pln x ∧ Q (.bl (isIntD x)) n
theorem is_integer_ok : ∀ l n Q E, tfIsInteger l n Q E → bodyTF 1 b__law_is_integer l n Q E := is_int_ok
theorem any_false (bs : List Bool) : (bs.any fun b => PyData.eqv (.bool b) (.bool false)) = !bs.all id := by
  induction bs with
  | nil => rfl
  | cons b bs ih =>
    rw [List.any_cons, ih, List.all_cons]
    cases b <;> rfl
theorem in_false (bs : List Bool) : fIn (.bl false) (.lst (bs.map .bl)) = some (.bl (!bs.all id)) := by
  have e1 : toPs (bs.map D.bl) = some (bs.map PyData.bool) := by
    induction bs with
    | nil => rfl
    | cons b bs ih =>
      show toPs (.bl b :: bs.map D.bl) = _
      unfold toPs
      rw [ih]
      rfl
  have e2 : SeqAt.shaped (.list (bs.map PyData.bool)) = true := by
    have a : ∀ bs : List Bool, PyData.canLayAll0 (bs.map PyData.bool) = true := by
      intro bs
      induction bs with
      | nil => rfl
      | cons b bs ih =>
        show (PyData.canLay0 (.bool b) && PyData.canLayAll0 (bs.map PyData.bool)) = true
        rw [ih]
        rfl
    have b : PyData.depthAll (bs.map PyData.bool) ≤ 0 := depth_all _ 0 (fun _ => Nat.le_refl _) bs
    unfold SeqAt.shaped
    rw [show PyData.canLay0 (.list (bs.map PyData.bool)) = true from a bs]
    refine decide_eq_true ?_
    show PyData.depthAll (bs.map PyData.bool) + 1 ≤ 64
    omega
  unfold fIn inP inL
  dsimp only
  rw [e1, show toP (.bl false) = some (.bool false) from rfl]
  dsimp only
  rw [e2]
  show some (D.bl _) = some (D.bl _)
  congr 2
  rw [List.any_map]
  exact any_false bs
end Ka

set_option Elab.async false
set_option linter.all false
set_option maxRecDepth 100000
set_option maxHeartbeats 4000000
namespace Ka
open PySem L2 VD VS PenM Pl Lb
local macro_rules | `(tactic| fail) => `(tactic| with_reducible first | refine s_next.mpr ?_ | refine s_seq.mpr ?_ | refine s_ifS.mpr ?_ | refine s_if.mpr ?_ | refine s_ret.mpr ?_ | refine s_T.mpr ?_ | refine s_Tr.mpr ?_ | refine s_notT.mpr ?_ | refine s_andT.mpr ?_ | refine s_orT.mpr ?_ | refine s_and.mpr ?_ | refine s_or.mpr ?_ | refine s_not.mpr ?_ | refine s_set.mpr ?_ | refine s_setO.mpr ?_ | refine s_2.mpr ?_ | refine s_1.mpr ?_ | refine s_C.mpr ?_ | refine var_at rfl ?_ | refine own_at rfl ?_ | refine s_cons.mpr ?_ | refine s_nil.mpr ?_ | refine s_call.mpr ?_ | refine s_callE.mpr ?_ | refine arg1 ?_ | refine arg2 ?_ | refine arg3 ?_ | refine arg4 ?_ | refine s_tup.mpr ?_ | refine s_lst.mpr ?_ | refine s_mt.mpr ?_ | refine s_ch.mpr ?_ | refine s_asg.mpr ?_ | refine s_par.mpr ?_ | refine s_drop.mpr ?_ | refine s_raise.mpr ?_ | refine s_iL.mpr ?_ | refine s_iT.mpr ?_ | refine s_iEL.mpr ?_ | refine s_iET.mpr ?_ | refine s_iR1.mpr ?_ | refine s_iR2.mpr ?_ | refine s_iZp.mpr ?_ | refine s_lc.mpr ?_ | refine s_for.mpr ?_ | refine s_gen.mpr ?_ | refine s_sl.mpr ?_ | refine s_no.mpr ?_ | refine s_pt.mpr ?_ | refine s_yes.mpr ?_ | refine app_at rfl ?_ | refine ext_at rfl ?_ | refine frz_at rfl ?_ | refine ev_asB.mpr ?_ | refine ev_truB ?_ | refine ev_asL.mpr ?_ | refine ev_asTp.mpr ?_ | refine ev_asI.mpr ?_ | refine ev_add.mpr ?_ | refine ev_sub.mpr ?_ | refine ev_neg.mpr ?_ | refine ev_le.mpr ?_ | refine ev_lt.mpr ?_ | refine ev_ge.mpr ?_ | refine ev_gt.mpr ?_ | refine ev_eqI.mpr ?_ | refine ev_neI.mpr ?_ | refine ev_lenT.mpr ?_ | refine ev_lenL.mpr ?_ | refine ev_toT.mpr ?_ | refine ev_toLT.mpr ?_ | refine ev_toL.mpr ?_ | refine ev_isN.mpr ?_ | refine ev_slT.mpr ?_ | refine ev_slLL.mpr ?_ | refine if_t ?_ | refine if_f ?_)
local macro_rules | `(tactic| fail) => `(tactic| with_reducible first | refine ev_catL.mpr ?_ | refine ev_catT.mpr ?_ | refine s_lc2.mpr ?_ | refine s_own1.mpr ?_ | refine own_at rfl ?_ | refine s_try.mpr ?_)
/-! ### the set of some waits, sorted -/
def onceW : List Wait → List Wait
  | [] => []
  | w :: ws => if w ∈ ws then onceW ws else w :: onceW ws
theorem mem_onceW {w : Wait} : ∀ {ws : List Wait}, w ∈ onceW ws ↔ w ∈ ws
  | [] => Iff.rfl
  | x :: ws => by
    unfold onceW
    by_cases c : x ∈ ws
    · rw [if_pos c, mem_onceW, List.mem_cons]
      exact ⟨.inr, fun h => h.elim (fun e => e ▸ c) id⟩
    · rw [if_neg c, List.mem_cons, List.mem_cons, mem_onceW]
theorem onceW_nodup : ∀ ws : List Wait, (onceW ws).Nodup
  | [] => List.nodup_nil
  | x :: ws => by
    unfold onceW
    by_cases c : x ∈ ws
    · rw [if_pos c]
      exact onceW_nodup ws
    · rw [if_neg c]
      exact List.nodup_cons.mpr ⟨fun h => c (mem_onceW.mp h), onceW_nodup ws⟩
theorem onceW_len : ∀ ws : List Wait, (onceW ws).length ≤ ws.length
  | [] => Nat.le_refl _
  | x :: ws => by
    have := onceW_len ws
    unfold onceW
    split <;> simp only [List.length_cons] <;> omega
def setW (ws : List Wait) : List Wait := sortW (onceW ws)
theorem mem_setW {w : Wait} {ws : List Wait} : w ∈ setW ws ↔ w ∈ ws := ((sortW_perm _).mem_iff).trans mem_onceW
theorem setW_len (ws : List Wait) : (setW ws).length ≤ ws.length := by
  unfold setW
  rw [(sortW_perm _).length_eq]
  exact onceW_len ws
theorem setW_ok {s : List Int} {ws : List Wait} (h1 : ws.length ≤ 24) (h2 : ∀ w ∈ ws, waitOf s w) : WaitsOk s (setW ws) :=
  sortW_ok (Nat.le_trans (onceW_len ws) h1) (fun w hw => h2 w (mem_onceW.mp hw)) (onceW_nodup ws)
def kWait (w : Wait) : NestedKey := keyP (pWait w)
theorem num_wait (w : Wait) : numP (pWait w) = true := rfl
theorem kWait_inj {a b : Wait} (h : kWait a = kWait b) : a = b := by
  have h1 := data_key (pWait a) (num_wait a)
  have h2 := data_key (pWait b) (num_wait b)
  have e : pWait a = pWait b := by rw [← h1, ← h2, show keyP (pWait a) = keyP (pWait b) from h]
  have e2 : some (pWait a) = some (pWait b) := congrArg some e
  have z : PyData.eqv (pWait a) (pWait b) = true := by rw [e, eqv_wait, decide_eq_true rfl]
  rw [eqv_wait, decide_eq_true_eq] at z
  exact z
theorem once_waits : ∀ ws : List Wait, once (ws.map kWait) = (onceW ws).map kWait
  | [] => rfl
  | w :: ws => by
    have c : kWait w ∈ ws.map kWait ↔ w ∈ ws := by
      rw [List.mem_map]
      exact ⟨fun ⟨v, hv, e⟩ => kWait_inj e ▸ hv, fun h => ⟨w, h, rfl⟩⟩
    show (if kWait w ∈ ws.map kWait then once (ws.map kWait) else kWait w :: once (ws.map kWait)) = (if w ∈ ws then onceW ws else w :: onceW ws).map kWait
    by_cases d : w ∈ ws
    · rw [if_pos d, if_pos (c.mpr d), once_waits ws]
    · rw [if_neg d, if_neg (fun z => d (c.mp z)), once_waits ws]
      rfl
theorem of_kWait (w : Wait) : ofP (kWait w).data = dWait w := rfl
theorem onceD_waits (ws : List Wait) : onceD (ws.map pWait) = (onceW ws).map dWait := by
  unfold onceD
  rw [List.map_map, show (keyP ∘ pWait) = kWait from rfl, once_waits, List.map_map]
  rfl
theorem setB_waits {ws : List Wait} (h : ws.length < 64) : setB (ws.map pWait) = true := by
  unfold setB
  simp only [Bool.and_eq_true, List.all_eq_true, decide_eq_true_eq, List.mem_map, List.length_map]
  refine ⟨?_, ?_, h⟩
  · rintro _ ⟨a, _, rfl⟩
    refine ⟨num_wait a, rfl, ?_⟩
    rw [depth_wait]
    omega
  · unfold sortB
    simp only [Bool.and_eq_true, Bool.or_eq_true, List.all_eq_true, decide_eq_true_eq, List.mem_map]
    refine ⟨?_, .inl ?_, ?_⟩
    · rintro _ ⟨a, _, rfl⟩ _ ⟨b, _, rfl⟩
      exact alike_wait a b
    · rintro _ ⟨a, _, rfl⟩
      rfl
    · rintro _ ⟨a, _, rfl⟩
      rw [depth_wait]
      omega
theorem merge_waits (ws : List Wait) : (ws.map dWait).mergeSort leD = (sortW ws).map dWait :=
  (List.map_mergeSort (r := leW) (s := leD) (f := dWait) fun a _ b _ => by
    unfold leW leD
    rw [keyD_wait, keyD_wait, lt_wait]).symm
theorem set_waits {ws : List Wait} (h : ws.length < 64) : fSetS (.lst (ws.map dWait)) = some (.lst ((setW ws).map dWait)) := by
  unfold fSetS seqD
  dsimp only
  rw [toPs_waits]
  dsimp only
  rw [if_pos (setB_waits h), onceD_waits, merge_waits]
  rfl
theorem set_waitsT {ws : List Wait} (h : ws.length < 64) : fSetS (.tup (ws.map dWait)) = some (.lst ((setW ws).map dWait)) := by
  unfold fSetS seqD
  dsimp only
  rw [toPs_waits]
  dsimp only
  rw [if_pos (setB_waits h), onceD_waits, merge_waits]
  rfl
/-! ### an order of all jobs -/
structure RowInv (s L : List Int) (row : List Job) : Prop where
  len : L.length = s.length
  nn : ∀ x ∈ L, 0 ≤ x
  le : ∀ i (h1 : i < L.length) (h2 : i < s.length), L[i] ≤ s[i]
  has : ∀ j ∈ row, jobOf s j
  num : (row.length : Int) + L.sum = s.sum
theorem RowInv.step {s L : List Int} {row : List Job} (I : RowInv s L row) {q : Nat} (hq : q < L.length) (hp : 0 < L[q]) : RowInv s (L.set q (L[q] - 1)) (row ++ [((q : Int), s.getD q 0 - L[q])]) where
  len := by rw [List.length_set]; exact I.len
  nn := fun x hx => by
    rcases List.mem_or_eq_of_mem_set hx with h | rfl
    · exact I.nn x h
    · omega
  le := fun i h1 h2 => by
    rw [List.getElem_set]
    split
    · rename_i e
      subst e
      have := I.le q hq h2
      omega
    · exact I.le i (by rw [List.length_set] at h1; exact h1) h2
  has := fun j hj => by
    rcases List.mem_append.mp hj with hj | hj
    · exact I.has j hj
    · rw [List.mem_singleton.mp hj]
      have hs : q < s.length := by rw [← I.len]; exact hq
      have := I.le q hq hs
      refine ⟨by dsimp only; omega, by dsimp only; omega, ?_, ?_⟩ <;> dsimp only <;> rw [List.getD_eq_getElem?_getD, List.getElem?_eq_getElem hs]
      · show 0 ≤ s[q] - L[q]
        omega
      · show s[q] - L[q] < s.getD (q : Int).toNat 0
        rw [Int.toNat_natCast, List.getD_eq_getElem?_getD, List.getElem?_eq_getElem hs]
        show s[q] - L[q] < s[q]
        omega
  num := by
    rw [List.length_append, List.length_singleton, sum_set hq]
    have := I.num
    omega
theorem RowInv.start (s : List Int) (hb : ∀ x ∈ s, 0 ≤ x ∧ x < 7) : RowInv s s [] :=
  ⟨rfl, fun x hx => (hb x hx).1, fun _ _ _ => Int.le_refl _, (fun _ h => nomatch h), by simp⟩
theorem toPs_ints : ∀ is : List Int, toPs (is.map D.int) = some (is.map PyData.int)
  | [] => rfl
  | i :: is => by
    show toPs (.int i :: is.map D.int) = _
    unfold toPs
    rw [toPs_ints is]
    rfl
theorem shp_ints (is : List Int) : SeqAt.shaped (.list (is.map PyData.int)) = true := by
  have a : ∀ is : List Int, PyData.canLayAll0 (is.map PyData.int) = true := by
    intro is
    induction is with
    | nil => rfl
    | cons i is ih =>
      show (PyData.canLay0 (.int i) && PyData.canLayAll0 (is.map PyData.int)) = true
      rw [ih]
      rfl
  have b : PyData.depthAll (is.map PyData.int) ≤ 0 := depth_all _ 0 (fun _ => Nat.le_refl _) is
  unfold SeqAt.shaped
  rw [show PyData.canLay0 (.list (is.map PyData.int)) = true from a is]
  refine decide_eq_true ?_
  show PyData.depthAll (is.map PyData.int) + 1 ≤ 64
  omega
theorem ne_ints (is : List Int) : fNe (.lst (is.map .int)) (.lst []) = some (.bl (!is.isEmpty)) := by
  unfold fNe
  rw [toP_lst (toPs_ints is)]
  show (if (SeqAt.shaped (.list (is.map PyData.int)) && SeqAt.shaped (.list [])) = true then _ else _) = _
  rw [shp_ints]
  show some (D.bl _) = some (D.bl _)
  congr 2
  cases is <;> rfl
end Ka

set_option Elab.async false
set_option linter.all false
set_option maxRecDepth 100000
set_option maxHeartbeats 4000000
namespace Ka
open PySem L2 VD VS PenM Pl Lb
local macro_rules | `(tactic| fail) => `(tactic| with_reducible first | refine s_next.mpr ?_ | refine s_seq.mpr ?_ | refine s_ifS.mpr ?_ | refine s_if.mpr ?_ | refine s_ret.mpr ?_ | refine s_T.mpr ?_ | refine s_Tr.mpr ?_ | refine s_notT.mpr ?_ | refine s_andT.mpr ?_ | refine s_orT.mpr ?_ | refine s_and.mpr ?_ | refine s_or.mpr ?_ | refine s_not.mpr ?_ | refine s_set.mpr ?_ | refine s_setO.mpr ?_ | refine s_2.mpr ?_ | refine s_1.mpr ?_ | refine s_C.mpr ?_ | refine var_at rfl ?_ | refine own_at rfl ?_ | refine s_cons.mpr ?_ | refine s_nil.mpr ?_ | refine s_call.mpr ?_ | refine s_callE.mpr ?_ | refine arg1 ?_ | refine arg2 ?_ | refine arg3 ?_ | refine arg4 ?_ | refine s_tup.mpr ?_ | refine s_lst.mpr ?_ | refine s_mt.mpr ?_ | refine s_ch.mpr ?_ | refine s_asg.mpr ?_ | refine s_par.mpr ?_ | refine s_drop.mpr ?_ | refine s_raise.mpr ?_ | refine s_iL.mpr ?_ | refine s_iT.mpr ?_ | refine s_iEL.mpr ?_ | refine s_iET.mpr ?_ | refine s_iR1.mpr ?_ | refine s_iR2.mpr ?_ | refine s_iZp.mpr ?_ | refine s_lc.mpr ?_ | refine s_for.mpr ?_ | refine s_gen.mpr ?_ | refine s_sl.mpr ?_ | refine s_no.mpr ?_ | refine s_pt.mpr ?_ | refine s_yes.mpr ?_ | refine app_at rfl ?_ | refine ext_at rfl ?_ | refine frz_at rfl ?_ | refine ev_asB.mpr ?_ | refine ev_truB ?_ | refine ev_asL.mpr ?_ | refine ev_asTp.mpr ?_ | refine ev_asI.mpr ?_ | refine ev_add.mpr ?_ | refine ev_sub.mpr ?_ | refine ev_neg.mpr ?_ | refine ev_le.mpr ?_ | refine ev_lt.mpr ?_ | refine ev_ge.mpr ?_ | refine ev_gt.mpr ?_ | refine ev_eqI.mpr ?_ | refine ev_neI.mpr ?_ | refine ev_lenT.mpr ?_ | refine ev_lenL.mpr ?_ | refine ev_toT.mpr ?_ | refine ev_toLT.mpr ?_ | refine ev_toL.mpr ?_ | refine ev_isN.mpr ?_ | refine ev_slT.mpr ?_ | refine ev_slLL.mpr ?_ | refine if_t ?_ | refine if_f ?_)
local macro_rules | `(tactic| fail) => `(tactic| with_reducible first | refine ev_catL.mpr ?_ | refine ev_catT.mpr ?_ | refine s_lc2.mpr ?_ | refine s_own1.mpr ?_ | refine own_at rfl ?_ | refine s_try.mpr ?_)
/-! ### a drawn plan -/
def tfPlan : TF := fun l n Q _ => ∃ ms wn : Int, l = [.pen, .int ms, .int wn] ∧ 0 ≤ ms ∧ ms ≤ 6 ∧ 0 ≤ wn ∧ wn ≤ 24 ∧ n < 800000 ∧ ∀ s ws n', PlanOk s ws → n ≤ n' → n' ≤ n + 80 → Q (dPlan s ws) n'
theorem filt_ints (L : List Int) : (L.filter fun x => decide (0 < x)) = [] ∨ 0 < ((L.filter fun x => decide (0 < x)).length) := by
  cases (L.filter fun x => decide (0 < x)) with
  | nil => exact .inl rfl
  | cons x l => exact .inr (Nat.succ_pos _)
theorem plan_ok : ∀ l n Q E, tfPlan l n Q E → bodyTF 15 (b__law_plan tfSizes tfOne tfTake) l n Q E := by
  intro l n Q E ⟨ms, wn, e, m0, m6, w0, w24, hn, q⟩
  subst e
  show b__law_plan tfSizes tfOne tfTake E ⟨fun _ m => Q .non m, Q, fun _ _ => False, fun _ _ => False⟩ [some (.d .pen), some (.d (.int ms)), some (.d (.int wn)), none, none, none, none, none, none, none, none, none, none, none, none] n
  unfold b__law_plan
  repeat' fail
  refine ⟨ms, rfl, m0, m6, by omega, fun s n1 sok a1 a2 => ?_⟩
  have hb := sok.2.2
  have h4 := sok.2.1
  repeat' fail
  refine toL_I ?_
  repeat' fail
  refine ⟨of_decide_eq_true rfl, ev_some.mpr (ev_some.mpr ?_)⟩
  have s24 := sum_24 h4 hb
  show dSeq _ _ _ [some (.d .pen), some (.d (.int ms)), some (.d (.int wn)), some (.d (dInts s)), some (.own (s.map .int)), some (.own (([] : List Job).map dJob)), none, none, none, none, none, none, none, none, none] n1
  -- what comes behind the turns
  have tail : ∀ (L : List Int) (row : List Job) (m : Nat) (a b c d e f g h i : Option S), (∀ j ∈ row, jobOf s j) → row.length ≤ 24 → n1 ≤ m → m ≤ n1 + 24 →
      (dSeq (dSetO 7 (dLst dNil)) (dSeq (dFor (iR1 (dCall 2 tfTake E (dCons (dVar 0) (dCons (d2 fAdd (dVar 2) (dC (.int 1))) dNil)))) (gNm 8) (dSeq (dPar 9 10 false false (dCall 2 tfTake E (dCons (dVar 0) (dCons (d2 fAdd (d1 fLen (dOwn 5)) (dC (.int 1))) dNil))) (dCall 2 tfTake E (dCons (dVar 0) (dCons (d2 fAdd (d1 fLen (dOwn 5)) (dC (.int 1))) dNil)))) (dSeq (dPar 11 12 false false (d2 fMin (dVar 9) (dVar 10)) (d2 fMax (dVar 9) (dVar 10))) (dIfS (dAndT (dT (d2 fLt (dVar 12) (d1 fLen (dOwn 5)))) (dT (d2 fNe (d2 fIxT (d2 fIxL (dOwn 5) (dVar 11)) (dC (.int 0))) (d2 fIxT (d2 fIxL (dOwn 5) (dVar 12)) (dC (.int 0)))))) (dApp 7 (dTup (dCons (d2 fIxL (dOwn 5) (dVar 11)) (dCons (d2 fIxL (dOwn 5) (dVar 12)) dNil)))) dNext)))) (dRet (dTup (dCons (dVar 3) (dCons (d1 fToT (d1 fSetS (dOwn 7))) dNil))))))
        ⟨fun _ m => Q .non m, Q, fun _ _ => False, fun _ _ => False⟩ [some (.d .pen), some (.d (.int ms)), some (.d (.int wn)), some (.d (dInts s)), some (.own (L.map .int)), some (.own (row.map dJob)), a, b, c, d, e, f, g, h, i] m := by
    intro L row m a b c d e f g h i hrow r24 c1 c2
    repeat' fail
    refine ⟨of_decide_eq_true rfl, ev_asL.mpr ?_⟩
    repeat' fail
    refine ⟨wn + 1, rfl, by omega, by omega, by omega, fun t t0 t1 n2 d1 d2 => ?_⟩
    repeat' fail
    refine ⟨by omega, ?_⟩
    refine for_ind (J := fun xs e m => ∃ (ws : List Wait) (b1 b2 b3 b4 b5 : Option S), ws.length + xs.length ≤ t.toNat ∧ (∀ v ∈ ws, waitOf s v) ∧ n2 ≤ m ∧ m + 2 * xs.length ≤ n2 + 2 * t.toNat ∧
      e = [some (.d .pen), some (.d (.int ms)), some (.d (.int wn)), some (.d (dInts s)), some (.own (L.map .int)), some (.own (row.map dJob)), a, some (.own (ws.map dWait)), b1, b2, b3, b4, b5, h, i]) ?_ ?_ _ _ _
      ⟨[], c, d, e, f, g, by rw [rng_len]; exact Nat.le_of_eq (Nat.zero_add _), (fun _ h => nomatch h), Nat.le_refl _, by rw [rng_len]; exact Nat.le_refl _, rfl⟩
    · rintro e m' ⟨ws, b1, b2, b3, b4, b5, e1, e2, e3, e4, rfl⟩
      rw [List.length_nil] at e1 e4
      repeat' fail
      refine opt_of (set_waits (by omega)) ?_
      repeat' fail
      exact ⟨of_decide_eq_true rfl, q s (setW ws) m' ⟨sok, setW_ok (by omega) e2⟩ (by omega) (by omega)⟩
    · rintro x xs e m' p ⟨ws, b1, b2, b3, b4, b5, e1, e2, e3, e4, rfl⟩ hp
      rw [List.length_cons] at e1 e4
      refine opt_of rfl ?_
      show dSeq _ _ _ [some (.d .pen), some (.d (.int ms)), some (.d (.int wn)), some (.d (dInts s)), some (.own (L.map .int)), some (.own (row.map dJob)), a, some (.own (ws.map dWait)), some (.d x), b2, b3, b4, b5, h, i] m'
      repeat' fail
      rw [List.length_map]
      refine ⟨_, rfl, by omega, by omega, by omega, fun i1 i10 i11 k1 f1 f2 => ?_⟩
      repeat' fail
      rw [List.length_map]
      refine ⟨_, rfl, by omega, by omega, by omega, fun i2 i20 i21 k2 f3 f4 => ?_⟩
      refine ev_some.mpr (ev_some.mpr ?_)
      repeat' fail
      refine opt_of (x := .int (if i2 < i1 then i2 else i1)) rfl ?_
      repeat' fail
      refine opt_of (x := .int (if i2 > i1 then i2 else i1)) rfl ?_
      refine ev_some.mpr (ev_some.mpr ?_)
      generalize hlo : (if i2 < i1 then i2 else i1) = lo
      generalize hhi : (if i2 > i1 then i2 else i1) = hi
      have lo0 : 0 ≤ lo := by split at hlo <;> omega
      have hi0 : 0 ≤ hi := by split at hhi <;> omega
      have lohi : lo ≤ hi := by split at hlo <;> split at hhi <;> omega
      show dIfS _ _ _ _ [some (.d .pen), some (.d (.int ms)), some (.d (.int wn)), some (.d (dInts s)), some (.own (L.map .int)), some (.own (row.map dJob)), a, some (.own (ws.map dWait)), some (.d x), some (.d (.int i1)), some (.d (.int i2)), some (.d (.int lo)), some (.d (.int hi)), h, i] k2
      have done : ∀ (ws' : List Wait) (b1 b2 b3 b4 b5 : Option S), ws'.length ≤ ws.length + 1 → (∀ v ∈ ws', waitOf s v) → p [some (.d .pen), some (.d (.int ms)), some (.d (.int wn)), some (.d (dInts s)), some (.own (L.map .int)), some (.own (row.map dJob)), a, some (.own (ws'.map dWait)), b1, b2, b3, b4, b5, h, i] k2 :=
        fun ws' b1 b2 b3 b4 b5 g3 g4 => hp _ _ ⟨ws', b1, b2, b3, b4, b5, by omega, g4, by omega, by omega, rfl⟩
      repeat' fail
      rw [List.length_map]
      by_cases c0 : hi < (row.length : Int)
      · rw [decide_eq_true c0]
        refine if_t ?_
        have glo : atI (row.map dJob) lo = some (dJob (row[lo.toNat]'(by omega))) := by
          rw [atI_nn lo0, List.getElem?_map, List.getElem?_eq_getElem (by omega : lo.toNat < row.length)]
          rfl
        have ghi : atI (row.map dJob) hi = some (dJob (row[hi.toNat]'(by omega))) := by
          rw [atI_nn hi0, List.getElem?_map, List.getElem?_eq_getElem (by omega : hi.toNat < row.length)]
          rfl
        generalize hj1 : row[lo.toNat]'(by omega) = j1 at glo
        generalize hj2 : row[hi.toNat]'(by omega) = j2 at ghi
        have o1 : jobOf s j1 := hrow _ (by rw [← hj1]; exact List.getElem_mem _)
        have o2 : jobOf s j2 := hrow _ (by rw [← hj2]; exact List.getElem_mem _)
        repeat' fail
        refine ev_ixL.mpr (opt_of glo ?_)
        repeat' fail
        refine ev_job0 ?_
        repeat' fail
        refine ev_ixL.mpr (opt_of ghi ?_)
        repeat' fail
        refine ev_job0 ?_
        repeat' fail
        by_cases c1 : j1.1 = j2.1
        · rw [c1, beq_self_eq_true]
          refine if_f ?_
          repeat' fail
          exact done ws _ _ _ _ _ (by omega) e2
        · rw [beq_eq_false_iff_ne.mpr c1]
          refine if_t ?_
          repeat' fail
          refine ev_ixL.mpr (opt_of glo ?_)
          repeat' fail
          refine ev_ixL.mpr (opt_of ghi ?_)
          repeat' fail
          refine ⟨of_decide_eq_true rfl, by rw [List.length_map]; omega, ?_⟩
          have e5 : ws.map dWait ++ [D.tup [dJob j1, dJob j2]] = (ws ++ [(j1, j2)]).map dWait := by
            rw [List.map_append]
            rfl
          have := done (ws ++ [(j1, j2)]) (some (.d x)) (some (.d (.int i1))) (some (.d (.int i2))) (some (.d (.int lo))) (some (.d (.int hi))) (by rw [List.length_append, List.length_singleton]; omega) fun v hv => by
            rcases List.mem_append.mp hv with hv | hv
            · exact e2 v hv
            · rw [List.mem_singleton.mp hv]
              exact ⟨o1, o2, c1⟩
          rw [← e5] at this
          exact this
      · rw [decide_eq_false c0]
        refine if_f ?_
        refine if_f ?_
        repeat' fail
        exact done ws _ _ _ _ _ (by omega) e2
  -- the turns
  have turns : ∀ (p : En → Nat → Prop), (∀ (L : List Int) (row : List Job) (m : Nat) (a : Option S), (∀ j ∈ row, jobOf s j) → row.length ≤ 24 → n1 ≤ m → m ≤ n1 + 24 → p [some (.d .pen), some (.d (.int ms)), some (.d (.int wn)), some (.d (dInts s)), some (.own (L.map .int)), some (.own (row.map dJob)), a, none, none, none, none, none, none, none, none] m) →
      ∀ (k : Nat) (L : List Int) (row : List Job) (m : Nat) (a : Option S), RowInv s L row → L.sum ≤ k → n1 ≤ m → (m : Int) + L.sum ≤ n1 + s.sum →
      dWhN (dT (d2 fNe (dLc (iOwn 4) [13] (gNm 13) (dT (d2 fGt (dVar 13) (dC (.int 0)))) (dVar 13)) (dLst dNil))) (dSeq (dSet 6 (dCall 2 tfOne E (dCons (dVar 0) (dCons (dLc (iOwnE 4) [14, 13] (gTp (gCn (gNm 14) (gCn (gNm 13) gNl))) (dT (d2 fGt (dVar 13) (dC (.int 0)))) (dVar 14)) dNil)))) (dSeq (dApp 5 (dTup (dCons (dVar 6) (dCons (d2 fSub (d2 fIxT (dVar 3) (dVar 6)) (d2 fIxL (dOwn 4) (dVar 6))) dNil)))) (dPut 4 (dVar 6) (d2 fSub (d2 fIxL (dOwn 4) (dVar 6)) (dC (.int 1)))))) (k + 1)
        ⟨p, Q, fun _ _ => False, fun _ _ => False⟩ [some (.d .pen), some (.d (.int ms)), some (.d (.int wn)), some (.d (dInts s)), some (.own (L.map .int)), some (.own (row.map dJob)), a, none, none, none, none, none, none, none, none] m := by
    intro p hp0 k
    induction k with
    | zero =>
      intro L row m a I hk h1 h2
      show dT _ _ m _
      repeat' fail
      have := sum_nn I.nn
      have z := sum_zero I.nn (by omega)
      have l4 : L.length ≤ 4 := by rw [I.len]; exact h4
      refine ⟨by rw [List.length_map]; omega, ?_⟩
      refine lc_filter _ (fun (x : Int) => .int x) (fun x => decide (0 < x)) _ [] (fun p hp R S' hR hS => ?_) ?_
      · refine opt_of rfl ?_
        repeat' fail
        refine bt_if (fun z => ?_) (fun z => hS z)
        repeat' fail
        exact hR z
      have e0 : (L.filter fun x => decide (0 < x)) = [] := List.filter_eq_nil_iff.mpr fun x hx => by rw [z x hx]; decide
      rw [e0]
      repeat' fail
      refine ⟨of_decide_eq_true rfl, opt_of (x := .bl false) rfl ?_⟩
      repeat' fail
      have := I.num
      exact hp0 L row m _ I.has (by omega) h1 (by omega)
    | succ k ih =>
      intro L row m a I hk h1 h2
      show dT _ _ m _
      repeat' fail
      have l4 : L.length ≤ 4 := by rw [I.len]; exact h4
      refine ⟨by rw [List.length_map]; omega, ?_⟩
      refine lc_filter _ (fun (x : Int) => .int x) (fun x => decide (0 < x)) _ [] (fun p hp R S' hR hS => ?_) ?_
      · refine opt_of rfl ?_
        repeat' fail
        refine bt_if (fun z => ?_) (fun z => hS z)
        repeat' fail
        exact hR z
      repeat' fail
      rw [List.nil_append]
      refine ⟨of_decide_eq_true rfl, opt_of (ne_ints _) ?_⟩
      repeat' fail
      by_cases c0 : 0 < L.sum
      · obtain ⟨i, hi, hpos⟩ := sum_pos I.nn c0
        have ne : (L.filter fun x => decide (0 < x)).isEmpty = false := by
          cases hf : (L.filter fun x => decide (0 < x)) with
          | nil =>
            have := List.filter_eq_nil_iff.mp hf L[i] (List.getElem_mem _)
            rw [decide_eq_true hpos] at this
            exact absurd rfl this
          | cons => rfl
        rw [ne]
        refine if_t ?_
        repeat' fail
        refine ownE_at rfl ?_
        rw [own_enum]
        refine ⟨by rw [List.length_map, List.length_range]; omega, ?_⟩
        refine lc_filter _ (fun (p : Nat) => .int (p : Int)) (fun p => decide (0 < L.getD p 0)) _ [] (fun p hp R S' hR hS => ?_) ?_
        · refine opt_of rfl ?_
          repeat' fail
          refine bt_if (fun z => ?_) (fun z => hS z)
          repeat' fail
          exact hR z
        refine s_nil.mpr ⟨rfl, ?_⟩
        have mem : ∀ x ∈ (([] : List D) ++ ((List.range L.length).filter fun p => decide (0 < L.getD p 0)).map fun (p : Nat) => D.int (p : Int)), ∃ (p : Nat) (hp : p < L.length), x = .int p ∧ 0 < L[p] := by
          intro x hx
          rw [List.nil_append] at hx
          obtain ⟨p, hp, rfl⟩ := List.mem_map.mp hx
          obtain ⟨hp1, hp2⟩ := List.mem_filter.mp hp
          have hp1 := List.mem_range.mp hp1
          have hp2 := of_decide_eq_true hp2
          rw [List.getD_eq_getElem?_getD, List.getElem?_eq_getElem hp1] at hp2
          exact ⟨p, hp1, rfl, hp2⟩
        refine ⟨_, rfl, fun z => ?_, ?_, by have := sum_nn I.nn; omega, fun x hx m' a1 a2 => ?_⟩
        · have y : D.int (i : Int) ∈ (([] : List D) ++ ((List.range L.length).filter fun p => decide (0 < L.getD p 0)).map fun (p : Nat) => D.int (p : Int)) := by
            rw [List.nil_append]
            refine List.mem_map.mpr ⟨i, List.mem_filter.mpr ⟨List.mem_range.mpr hi, decide_eq_true ?_⟩, rfl⟩
            rw [List.getD_eq_getElem?_getD, List.getElem?_eq_getElem hi]
            exact hpos
          rw [z] at y
          exact nomatch y
        · rw [List.nil_append, List.length_map]
          have := List.length_filter_le (fun p => decide (0 < L.getD p 0)) (List.range L.length)
          rw [List.length_range] at this
          omega
        · obtain ⟨p, hp, rfl, hpp⟩ := mem x hx
          have hps : p < s.length := by rw [← I.len]; exact hp
          have gL : atI (L.map D.int) (p : Int) = some (.int L[p]) := by
            rw [ints_get (by omega) (by omega), List.getD_eq_getElem?_getD, Int.toNat_natCast, List.getElem?_eq_getElem hp]
            rfl
          repeat' fail
          unfold dInts
          refine ev_ixT.mpr (opt_of (ints_get (by omega) (by omega)) ?_)
          repeat' fail
          refine ev_ixL.mpr (opt_of gL ?_)
          repeat' fail
          refine ⟨of_decide_eq_true rfl, ?_, ?_⟩
          · rw [List.length_map]
            have := I.num
            have := sum_nn I.nn
            omega
          refine put_at rfl ?_
          repeat' fail
          refine ev_ixL.mpr (opt_of gL ?_)
          repeat' fail
          have ix : ixN (L.map D.int).length (p : Int) = some p := by
            unfold ixN
            rw [List.length_map, if_pos (by omega : (0 : Int) ≤ (p : Int)), if_pos (by omega : (p : Int) < (L.length : Int))]
            rfl
          rw [ix]
          refine ev_some.mpr ?_
          have st := I.step hp hpp
          have e1 : (L.map D.int).set p (.int (L[p] - 1)) = (L.set p (L[p] - 1)).map D.int := by rw [List.map_set]
          have e2 : row.map dJob ++ [D.tup [.int p, .int (s.getD (p : Int).toNat 0 - L[p])]] = (row ++ [((p : Int), s.getD p 0 - L[p])]).map dJob := by
            rw [List.map_append]
            rfl
          have := ih (L.set p (L[p] - 1)) (row ++ [((p : Int), s.getD p 0 - L[p])]) m' (some (.d (.int p))) st (by rw [sum_set hp]; omega) (by omega) (by rw [sum_set hp]; omega)
          rw [← e1, ← e2] at this
          exact this
      · have := sum_nn I.nn
        have z := sum_zero I.nn (by omega)
        have e0 : (L.filter fun x => decide (0 < x)) = [] := List.filter_eq_nil_iff.mpr fun x hx => by rw [z x hx]; decide
        rw [e0]
        refine if_f ?_
        have := I.num
        exact hp0 L row m _ I.has (by omega) h1 (by omega)
  refine s_seq.mpr ⟨24 + 1, ?_⟩
  exact turns _ (fun L row m a h1 h2 h3 h4 => tail L row m a none none none none none none none none h1 h2 h3 h4) 24 s [] n1 none (RowInv.start s hb) s24 (Nat.le_refl _) (Int.le_refl _)
end Ka

set_option Elab.async false
set_option linter.all false
set_option maxRecDepth 100000
set_option maxHeartbeats 4000000
namespace Ka
open PySem L2 VD VS PenM Pl Lb
local macro_rules | `(tactic| fail) => `(tactic| with_reducible first | refine s_next.mpr ?_ | refine s_seq.mpr ?_ | refine s_ifS.mpr ?_ | refine s_if.mpr ?_ | refine s_ret.mpr ?_ | refine s_T.mpr ?_ | refine s_Tr.mpr ?_ | refine s_notT.mpr ?_ | refine s_andT.mpr ?_ | refine s_orT.mpr ?_ | refine s_and.mpr ?_ | refine s_or.mpr ?_ | refine s_not.mpr ?_ | refine s_set.mpr ?_ | refine s_setO.mpr ?_ | refine s_2.mpr ?_ | refine s_1.mpr ?_ | refine s_C.mpr ?_ | refine var_at rfl ?_ | refine own_at rfl ?_ | refine s_cons.mpr ?_ | refine s_nil.mpr ?_ | refine s_call.mpr ?_ | refine s_callE.mpr ?_ | refine arg1 ?_ | refine arg2 ?_ | refine arg3 ?_ | refine arg4 ?_ | refine s_tup.mpr ?_ | refine s_lst.mpr ?_ | refine s_mt.mpr ?_ | refine s_ch.mpr ?_ | refine s_asg.mpr ?_ | refine s_par.mpr ?_ | refine s_drop.mpr ?_ | refine s_raise.mpr ?_ | refine s_iL.mpr ?_ | refine s_iT.mpr ?_ | refine s_iEL.mpr ?_ | refine s_iET.mpr ?_ | refine s_iR1.mpr ?_ | refine s_iR2.mpr ?_ | refine s_iZp.mpr ?_ | refine s_lc.mpr ?_ | refine s_for.mpr ?_ | refine s_gen.mpr ?_ | refine s_sl.mpr ?_ | refine s_no.mpr ?_ | refine s_pt.mpr ?_ | refine s_yes.mpr ?_ | refine app_at rfl ?_ | refine ext_at rfl ?_ | refine frz_at rfl ?_ | refine ev_asB.mpr ?_ | refine ev_truB ?_ | refine ev_asL.mpr ?_ | refine ev_asTp.mpr ?_ | refine ev_asI.mpr ?_ | refine ev_add.mpr ?_ | refine ev_sub.mpr ?_ | refine ev_neg.mpr ?_ | refine ev_le.mpr ?_ | refine ev_lt.mpr ?_ | refine ev_ge.mpr ?_ | refine ev_gt.mpr ?_ | refine ev_eqI.mpr ?_ | refine ev_neI.mpr ?_ | refine ev_lenT.mpr ?_ | refine ev_lenL.mpr ?_ | refine ev_toT.mpr ?_ | refine ev_toLT.mpr ?_ | refine ev_toL.mpr ?_ | refine ev_isN.mpr ?_ | refine ev_slT.mpr ?_ | refine ev_slLL.mpr ?_ | refine if_t ?_ | refine if_f ?_)
local macro_rules | `(tactic| fail) => `(tactic| with_reducible first | refine ev_catL.mpr ?_ | refine ev_catT.mpr ?_ | refine s_lc2.mpr ?_ | refine s_own1.mpr ?_ | refine own_at rfl ?_ | refine s_try.mpr ?_)
def tfAnyPlan : TF := fun l n Q _ => ∃ ms wn : Int, l = [.pen, .int ms, .int wn] ∧ 0 ≤ ms ∧ ms ≤ 6 ∧ 0 ≤ wn ∧ wn ≤ 24 ∧ n < 800000 ∧ ∀ s ws n', PlanOk s ws → n ≤ n' → n' ≤ n + 60 → Q (dPlan s ws) n'
theorem any_plan_ok : ∀ l n Q E, tfAnyPlan l n Q E → bodyTF 9 (b__law_any_plan tfSizes tfJobs tfTake tfOne) l n Q E := by
  intro l n Q E ⟨ms, wn, e, m0, m6, w0, w24, hn, q⟩
  subst e
  show b__law_any_plan tfSizes tfJobs tfTake tfOne E ⟨fun _ m => Q .non m, Q, fun _ _ => False, fun _ _ => False⟩ [some (.d .pen), some (.d (.int ms)), some (.d (.int wn)), none, none, none, none, none, none] n
  unfold b__law_any_plan
  repeat' fail
  refine ⟨ms, rfl, m0, m6, by omega, fun s n1 sok a1 a2 => ?_⟩
  have hb := sok.2.2
  have h4 := sok.2.1
  repeat' fail
  refine ⟨s, rfl, h4, hb, ?_⟩
  repeat' fail
  refine ⟨of_decide_eq_true rfl, ev_some.mpr (ev_some.mpr ?_)⟩
  repeat' fail
  refine ⟨wn + 1, rfl, by omega, by omega, by omega, fun t t0 t1 n2 d1 d2 => ?_⟩
  repeat' fail
  refine ⟨by omega, ?_⟩
  refine for_ind (J := fun xs e m => ∃ (ws : List Wait) (b1 b2 b3 : Option S), ws.length + xs.length ≤ t.toNat ∧ (∀ v ∈ ws, waitOf s v) ∧ n2 ≤ m ∧ m + 2 * xs.length ≤ n2 + 2 * t.toNat ∧
    e = [some (.d .pen), some (.d (.int ms)), some (.d (.int wn)), some (.d (dInts s)), some (.d (.lst ((jobsL s).map dJob))), some (.own (ws.map dWait)), b1, b2, b3]) ?_ ?_ _ _ _
    ⟨[], _, _, _, by rw [rng_len]; exact Nat.le_of_eq (Nat.zero_add _), (fun _ h => nomatch h), Nat.le_refl _, by rw [rng_len]; exact Nat.le_refl _, rfl⟩
  · rintro e m' ⟨ws, b1, b2, b3, e1, e2, e3, e4, rfl⟩
    rw [List.length_nil] at e1 e4
    repeat' fail
    refine opt_of (set_waits (by omega)) ?_
    repeat' fail
    exact ⟨of_decide_eq_true rfl, q s (setW ws) m' ⟨sok, setW_ok (by omega) e2⟩ (by omega) (by omega)⟩
  · rintro x xs e m' p ⟨ws, b1, b2, b3, e1, e2, e3, e4, rfl⟩ hp
    rw [List.length_cons] at e1 e4
    refine opt_of rfl ?_
    show dIfS _ _ _ _ [some (.d .pen), some (.d (.int ms)), some (.d (.int wn)), some (.d (dInts s)), some (.d (.lst ((jobsL s).map dJob))), some (.own (ws.map dWait)), some (.d x), b2, b3] m'
    have l24 : (jobsL s).length ≤ 24 := by
      have := jobs_len h4 hb s.length (Nat.le_refl _)
      unfold jobsL
      omega
    repeat' fail
    refine ⟨of_decide_eq_true rfl, opt_of (ne_nil _) ?_⟩
    repeat' fail
    cases hj : (jobsL s).isEmpty with
    | true =>
      refine if_f ?_
      repeat' fail
      exact hp _ _ ⟨ws, _, _, _, by omega, e2, by omega, by omega, rfl⟩
    | false =>
      have ne : (jobsL s).map dJob ≠ [] := fun z => by
        have z := List.map_eq_nil_iff.mp z
        rw [z] at hj
        cases hj
      refine if_t ?_
      repeat' fail
      refine ⟨_, rfl, ne, by rw [List.length_map]; omega, by omega, fun x1 hx1 k1 f1 f2 => ?_⟩
      repeat' fail
      refine ⟨_, rfl, ne, by rw [List.length_map]; omega, by omega, fun x2 hx2 k2 f3 f4 => ?_⟩
      obtain ⟨j1, hj1, rfl⟩ := List.mem_map.mp hx1
      obtain ⟨j2, hj2, rfl⟩ := List.mem_map.mp hx2
      have o1 := mem_jobsL.mp hj1
      have o2 := mem_jobsL.mp hj2
      refine ev_some.mpr (ev_some.mpr ?_)
      repeat' fail
      refine ⟨of_decide_eq_true rfl, of_decide_eq_true rfl, ?_⟩
      repeat' fail
      refine ev_job0 ?_
      repeat' fail
      refine ev_job0 ?_
      repeat' fail
      by_cases c1 : j1.1 = j2.1
      · rw [c1, beq_self_eq_true]
        refine opt_of (x := .int 0) rfl ?_
        refine opt_of (x := .lst []) rfl ?_
        repeat' fail
        rw [List.append_nil]
        exact ⟨by rw [List.length_map]; show _ + 0 ≤ _; omega, hp _ _ ⟨ws, _, _, _, by omega, e2, by omega, by omega, rfl⟩⟩
      · rw [beq_eq_false_iff_ne.mpr c1]
        refine opt_of (x := .int 1) rfl ?_
        refine opt_of (x := .lst [.tup [dJob j1, dJob j2]]) rfl ?_
        repeat' fail
        have e5 : ws.map dWait ++ [D.tup [dJob j1, dJob j2]] = (ws ++ [(j1, j2)]).map dWait := by
          rw [List.map_append]
          rfl
        rw [e5]
        exact ⟨by rw [List.length_map]; show _ + 1 ≤ _; omega, hp _ _ ⟨ws ++ [(j1, j2)], _, _, _, by rw [List.length_append, List.length_singleton]; omega, fun v hv => by
          rcases List.mem_append.mp hv with hv | hv
          · exact e2 v hv
          · rw [List.mem_singleton.mp hv]
            exact ⟨o1, o2, c1⟩, by omega, by omega, rfl⟩⟩
end Ka

set_option Elab.async false
set_option linter.all false
set_option maxRecDepth 100000
set_option maxHeartbeats 4000000
namespace VD
open PySem L2
/-! ### the parts of fine data -/
theorem piled_len : ∀ {l : List D} {ps : List PyData}, toPs l = some ps → 2 * l.length ≤ piled (PyData.shownAll ps)
  | [], _, _ => Nat.zero_le _
  | y :: l, ps, h => by
    unfold toPs at h
    split at h
    · rename_i p qs e1 e2
      cases h
      have := piled_len e2
      show 2 * (l.length + 1) ≤ piled (p.shown :: PyData.shownAll qs)
      rw [piled_cons]
      omega
    · cases h
theorem fine_parts {d L : Nat} : ∀ {l : List D} {ps : List PyData}, toPs l = some ps → PyData.showableAll ps = true → PyData.hasDictAll ps = false → PyData.canLayAll0 ps = true → PyData.depthAll ps ≤ d → piled (PyData.shownAll ps) ≤ L + 2 → ∀ y ∈ l, Fine d L y
  | [], _, _, _, _, _, _, _, _, hy => nomatch hy
  | x :: l, ps, h, h1, h2, h3, h4, h5, y, hy => by
    unfold toPs at h
    split at h
    · rename_i p qs e1 e2
      cases h
      have a1 : (p.showable && PyData.showableAll qs) = true := h1
      have a2 : (p.hasDict || PyData.hasDictAll qs) = false := h2
      have a3 : (p.canLay0 && PyData.canLayAll0 qs) = true := h3
      have a4 : max p.depth (PyData.depthAll qs) ≤ d := h4
      have a5 : piled (p.shown :: PyData.shownAll qs) ≤ L + 2 := h5
      rw [Bool.and_eq_true] at a1 a3
      rw [Bool.or_eq_false_iff] at a2
      rw [piled_cons] at a5
      rcases List.mem_cons.mp hy with rfl | hy
      · exact ⟨p, e1, a1.1, a2.1, a3.1, by omega, by omega⟩
      · exact fine_parts e2 a1.2 a2.2 a3.2 (by omega) (by omega) y hy
    · cases h
theorem tupleText_ge (ts : List Str) : piled ts ≤ (tupleText ts).length := by
  unfold tupleText
  rw [strLen_append, strLen_append]
  have a : (("(" : Str)).length = 1 := rfl
  have b : 1 ≤ ((if ts.length == 1 then ",)" else ")" : String) : Str).length := by
    split <;> decide +kernel
  cases ts with
  | nil =>
    show 0 ≤ _
    omega
  | cons t r =>
    have := join_length_add (t :: r) (by simp)
    omega
theorem Fine.tup {d L : Nat} {l : List D} (h : Fine d L (.tup l)) : l.length ≤ L ∧ ∀ y ∈ l, Fine d L y := by
  obtain ⟨p, e, h1, h2, h3, h4, h5⟩ := h
  have e : (toPs l).map PyData.tuple = some p := e
  obtain ⟨ps, e2, rfl⟩ := Option.map_eq_some_iff.mp e
  have h5 : (tupleText (PyData.shownAll ps)).length ≤ L := h5
  have h4 : PyData.depthAll ps + 1 ≤ d := h4
  have := tupleText_ge (PyData.shownAll ps)
  have := piled_len e2
  exact ⟨by omega, fine_parts e2 h1 h2 h3 (by omega) (by omega)⟩
section
variable {g : GD} {c : TTD} {te : TD} {e0 : En} {Q : DK} {m : Nat}
theorem lc_map1 (b : D → D) (l acc : List D) (h : ∀ i ∈ l, ∀ (R : DK) (S : Nat → Prop), R (b i) m → opt (g i e0) fun e' => c e' m fun q m1 => if q = true then te e' m1 R else S m1) (q : Q (.lst (acc ++ l.map b)) m) : dLcL g c te e0 l acc m Q := by
  have := lc_map (fun x => x) b l acc h q
  rwa [List.map_id'] at this
theorem lc_filter1 (p : D → Bool) (l acc : List D) (h : ∀ i ∈ l, ∀ (R : DK) (S : Nat → Prop), (p i = true → R i m) → (p i = false → S m) → opt (g i e0) fun e' => c e' m fun q m1 => if q = true then te e' m1 R else S m1)
    (q : Q (.lst (acc ++ l.filter p)) m) : dLcL g c te e0 l acc m Q := by
  have := lc_filter (fun x => x) (fun x => x) p l acc h (by rwa [List.map_id'])
  rwa [List.map_id'] at this
end
end VD

set_option Elab.async false
set_option linter.all false
set_option maxRecDepth 100000
set_option maxHeartbeats 4000000
namespace Ka
open PySem L2 VD VS PenM Pl Lb
local macro_rules | `(tactic| fail) => `(tactic| with_reducible first | refine s_next.mpr ?_ | refine s_seq.mpr ?_ | refine s_ifS.mpr ?_ | refine s_if.mpr ?_ | refine s_ret.mpr ?_ | refine s_T.mpr ?_ | refine s_Tr.mpr ?_ | refine s_notT.mpr ?_ | refine s_andT.mpr ?_ | refine s_orT.mpr ?_ | refine s_and.mpr ?_ | refine s_or.mpr ?_ | refine s_not.mpr ?_ | refine s_set.mpr ?_ | refine s_setO.mpr ?_ | refine s_2.mpr ?_ | refine s_1.mpr ?_ | refine s_C.mpr ?_ | refine var_at rfl ?_ | refine own_at rfl ?_ | refine s_cons.mpr ?_ | refine s_nil.mpr ?_ | refine s_call.mpr ?_ | refine s_callE.mpr ?_ | refine arg1 ?_ | refine arg2 ?_ | refine arg3 ?_ | refine arg4 ?_ | refine s_tup.mpr ?_ | refine s_lst.mpr ?_ | refine s_mt.mpr ?_ | refine s_ch.mpr ?_ | refine s_asg.mpr ?_ | refine s_par.mpr ?_ | refine s_drop.mpr ?_ | refine s_raise.mpr ?_ | refine s_iL.mpr ?_ | refine s_iT.mpr ?_ | refine s_iEL.mpr ?_ | refine s_iET.mpr ?_ | refine s_iR1.mpr ?_ | refine s_iR2.mpr ?_ | refine s_iZp.mpr ?_ | refine s_lc.mpr ?_ | refine s_for.mpr ?_ | refine s_gen.mpr ?_ | refine s_sl.mpr ?_ | refine s_no.mpr ?_ | refine s_pt.mpr ?_ | refine s_yes.mpr ?_ | refine app_at rfl ?_ | refine ext_at rfl ?_ | refine frz_at rfl ?_ | refine ev_asB.mpr ?_ | refine ev_truB ?_ | refine ev_asL.mpr ?_ | refine ev_asTp.mpr ?_ | refine ev_asI.mpr ?_ | refine ev_add.mpr ?_ | refine ev_sub.mpr ?_ | refine ev_neg.mpr ?_ | refine ev_le.mpr ?_ | refine ev_lt.mpr ?_ | refine ev_ge.mpr ?_ | refine ev_gt.mpr ?_ | refine ev_eqI.mpr ?_ | refine ev_neI.mpr ?_ | refine ev_lenT.mpr ?_ | refine ev_lenL.mpr ?_ | refine ev_toT.mpr ?_ | refine ev_toLT.mpr ?_ | refine ev_toL.mpr ?_ | refine ev_isN.mpr ?_ | refine ev_slT.mpr ?_ | refine ev_slLL.mpr ?_ | refine if_t ?_ | refine if_f ?_)
local macro_rules | `(tactic| fail) => `(tactic| with_reducible first | refine ev_catL.mpr ?_ | refine ev_catT.mpr ?_ | refine s_lc2.mpr ?_ | refine s_own1.mpr ?_ | refine own_at rfl ?_ | refine s_try.mpr ?_)
theorem fine_pln {d L : Nat} {x : D} (h : Fine d L x) : Pln x := let ⟨p, e, _⟩ := h; ⟨p, e⟩
def tfLJob : TF := fun l n Q _ => ∃ (s : List Int) (x : D), l = [dInts s, x] ∧ Pln x ∧ Q (.bl (hasJobD s x)) n
theorem isInt_dec {x : D} (h : isIntD x = true) : ∃ i, x = .int i := by
  cases x with
  | int i => exact ⟨i, rfl⟩
  | _ => cases h
theorem len2 {l : List D} (h : (l.length : Int) = 2) : ∃ a b, l = [a, b] := by
  have h : l.length = 2 := by omega
  match l, h with
  | [a, b], _ => exact ⟨a, b, rfl⟩
theorem ljob_ok : ∀ l n Q E, tfLJob l n Q E → bodyTF 3 (b__law_is_job tfIsInteger) l n Q E := by
  intro l n Q E ⟨s, x, e, hp, q⟩
  subst e
  show b__law_is_job tfIsInteger E ⟨fun _ m => Q .non m, Q, fun _ _ => False, fun _ _ => False⟩ [some (.d (dInts s)), some (.d x), none] n
  unfold b__law_is_job
  repeat' fail
  refine opt_of (isi_tup hp) (ev_truB ?_)
  cases x with
  | tup l =>
    refine if_f ?_
    repeat' fail
    by_cases c : (l.length : Int) = 2
    · rw [beq_iff_eq.mpr c]
      refine if_f ?_
      obtain ⟨a, b, rfl⟩ := len2 c
      have pa : Pln a := pln_tup hp a List.mem_cons_self
      have pb : Pln b := pln_tup hp b (List.mem_cons_of_mem _ List.mem_cons_self)
      repeat' fail
      refine ⟨of_decide_eq_true rfl, ?_⟩
      refine lc_map1 (fun x => .bl (isIntD x)) [a, b] [] (fun y hy R S' hR => ?_) ?_
      · refine opt_of rfl ?_
        repeat' fail
        exact ⟨y, rfl, pln_tup hp y hy, hR⟩
      refine opt_of (in_false [isIntD a, isIntD b]) ?_
      repeat' fail
      cases ha : isIntD a with
      | false =>
        refine if_t ?_
        repeat' fail
        have : hasJobD s (.tup [a, b]) = false := by
          cases a with
          | int i => cases ha
          | _ => rfl
        rw [← this]
        exact q
      | true =>
        obtain ⟨i, rfl⟩ := isInt_dec ha
        cases hb : isIntD b with
        | false =>
          refine if_t ?_
          repeat' fail
          have : hasJobD s (.tup [.int i, b]) = false := by
            cases b with
            | int i => cases hb
            | _ => show (_ && false) = false; rw [Bool.and_false]
          rw [← this]
          exact q
        | true =>
          obtain ⟨j, rfl⟩ := isInt_dec hb
          refine if_f ?_
          have q : Q (.bl ((decide (0 ≤ i) && decide (i < s.length)) && (decide (0 ≤ j) && decide (j < s.getD i.toNat 0)))) n := q
          repeat' fail
          refine ev_ixT.mpr (opt_of (x := .int i) rfl ?_)
          repeat' fail
          by_cases c1 : 0 ≤ i
          · rw [decide_eq_true c1] at q ⊢
            refine if_t ?_
            repeat' fail
            refine ev_lenI ?_
            repeat' fail
            by_cases c2 : i < (s.length : Int)
            · rw [decide_eq_true c2] at q ⊢
              refine if_t ?_
              repeat' fail
              refine ev_ixT.mpr (opt_of (x := .int j) rfl ?_)
              repeat' fail
              by_cases c3 : 0 ≤ j
              · rw [decide_eq_true c3] at q ⊢
                refine if_t ?_
                repeat' fail
                refine ev_ixT.mpr (opt_of (x := .int i) rfl ?_)
                unfold dInts
                refine ev_ixT.mpr (opt_of (ints_get c1 c2) ?_)
                repeat' fail
                exact q
              · rw [decide_eq_false c3] at q ⊢
                refine if_f ?_
                exact q
            · rw [decide_eq_false c2] at q ⊢
              refine if_f ?_
              exact q
          · rw [decide_eq_false c1] at q ⊢
            refine if_f ?_
            repeat' fail
            exact q
    · rw [beq_eq_false_iff_ne.mpr c]
      refine if_t ?_
      repeat' fail
      have : hasJobD s (.tup l) = false := by
        match l, c with
        | [], _ => rfl
        | [.int _], _ => rfl
        | [.non], _ => rfl
        | a :: b :: c :: l, _ => cases a <;> rfl
        | [a, b], c => exact absurd rfl c
        | [a], _ => cases a <;> rfl
      rw [← this]
      exact q
  | _ =>
    refine if_t ?_
    repeat' fail
    exact q
/-! ### what is due -/
theorem all_filt {α : Type} (p : α → Bool) (l : List α) : (l.filter p).length < l.length ∨ l.all p = true := by
  by_cases h : (l.filter p).length = l.length
  · refine .inr (List.all_eq_true.mpr ?_)
    exact List.length_filter_eq_length_iff.mp h
  · have := List.length_filter_le p l
    exact .inl (by omega)
theorem eq_ints (is : List Int) : fEq (.lst (is.map .int)) (.lst []) = some (.bl is.isEmpty) := by
  unfold fEq
  rw [toP_lst (toPs_ints is)]
  show (if (SeqAt.shaped (.list (is.map PyData.int)) && SeqAt.shaped (.list [])) = true then _ else _) = _
  rw [shp_ints]
  show some (D.bl _) = some (D.bl _)
  congr 1
  cases is <;> rfl
theorem ge_wait (a b : Wait) : fGeX (dWait a) (dWait b) = some (.bl (!ltW a b)) := by
  unfold fGeX fCoX
  rw [toP_wait, toP_wait]
  refine (if_pos ?_).trans (by dsimp only; rw [lt_wait])
  rw [alike_wait, depth_wait]
  rfl
def W0 : Wait := ((0, 0), (0, 0))
theorem asc_iff : ∀ {ws : List Wait}, ascW ws = true ↔ ∀ i, i + 1 < ws.length → ltW (ws.getD i W0) (ws.getD (i + 1) W0) = true
  | [] => ⟨fun _ i h => absurd h (Nat.not_lt_zero _), fun _ => rfl⟩
  | [_] => ⟨fun _ i h => absurd h (by simp), fun _ => rfl⟩
  | a :: b :: ws => by
    show (ltW a b && ascW (b :: ws)) = true ↔ _
    rw [Bool.and_eq_true, asc_iff]
    constructor
    · rintro ⟨h1, h2⟩ i hi
      cases i with
      | zero => exact h1
      | succ i => exact h2 i (by simpa using hi)
    · intro h
      exact ⟨h 0 (by simp), fun i hi => h (i + 1) (by simpa using hi)⟩
theorem rng1 (k : Nat) : rngD 1 k = (List.range k).map fun (p : Nat) => D.int (1 + (p : Int)) := by
  unfold rngD
  rfl
def tfDue : TF := fun l n Q _ => ∃ x, l = [x] ∧ Fine 60 10000 x ∧ ∀ b, (b = true ↔ IsPlan x) → Q (.bl b) n
theorem due_ok : ∀ l n Q E, tfDue l n Q E → bodyTF 8 (b__law_due tfIsInteger tfLJob) l n Q E := by
  intro l n Q E ⟨x, e, hf, q⟩
  subst e
  show b__law_due tfIsInteger tfLJob E ⟨fun _ m => Q .non m, Q, fun _ _ => False, fun _ _ => False⟩ [some (.d x), none, none, none, none, none, none, none] n
  have hp := fine_pln hf
  unfold b__law_due
  have no : ¬ IsPlan x → Q (.bl false) n := fun h => q false ⟨(fun z => nomatch z), fun z => absurd z h⟩
  repeat' fail
  refine opt_of (isi_tup hp) (ev_truB ?_)
  cases x with
  | tup l =>
    refine if_f ?_
    repeat' fail
    by_cases c : (l.length : Int) = 2
    · obtain ⟨a, b, rfl⟩ := len2 c
      have fa : Fine 60 10000 a := hf.tup.2 a List.mem_cons_self
      have fb : Fine 60 10000 b := hf.tup.2 b (List.mem_cons_of_mem _ List.mem_cons_self)
      have pa := fine_pln fa
      have pb := fine_pln fb
      rw [beq_iff_eq.mpr c]
      refine if_f ?_
      repeat' fail
      refine ev_ixT.mpr (opt_of (x := a) rfl ?_)
      refine opt_of (isi_tup pa) (ev_truB ?_)
      cases a with
      | tup sl =>
        refine if_f ?_
        repeat' fail
        refine opt_of (x := [some (.d (.tup [.tup sl, b])), some (.d (.tup sl)), some (.d b), none, none, none, none, none]) rfl ?_
        repeat' fail
        refine ⟨by have := fa.tup.1; omega, ?_⟩
        refine lc_filter1 (fun x => isBelowD x 7) sl [] (fun y hy R S' hR hS => ?_) ?_
        · refine opt_of rfl ?_
          repeat' fail
          refine ⟨y, rfl, pln_tup pa y hy, ev_truB ?_⟩
          cases y with
          | int i =>
            refine if_t ?_
            repeat' fail
            change (decide (0 ≤ i) && decide (i < 7)) = true → _ at hR
            change (decide (0 ≤ i) && decide (i < 7)) = false → _ at hS
            by_cases c1 : 0 ≤ i
            · rw [decide_eq_true c1] at hR hS ⊢
              refine if_t ?_
              repeat' fail
              by_cases c2 : i < 7
              · rw [decide_eq_true c2] at hR
                rw [decide_eq_true (by omega : i ≤ 6)]
                refine if_t ?_
                repeat' fail
                exact hR rfl
              · rw [decide_eq_false c2] at hS
                rw [decide_eq_false (by omega : ¬ i ≤ 6)]
                exact if_f (hS rfl)
            · rw [decide_eq_false c1] at hR hS ⊢
              refine if_f ?_
              repeat' fail
              exact hS rfl
          | _ => exact if_f (hS rfl)
        rw [List.nil_append]
        repeat' fail
        by_cases c1 : 1 ≤ (sl.length : Int)
        · rw [decide_eq_true c1]
          refine if_t ?_
          repeat' fail
          by_cases c2 : (sl.length : Int) ≤ 4
          · rw [decide_eq_true c2]
            refine if_f ?_
            repeat' fail
            rcases all_filt (fun x => isBelowD x 7) sl with c3 | c3
            · rw [decide_eq_true (by omega)]
              refine if_t ?_
              repeat' fail
              refine no ?_
              rintro ⟨s, ws, e, ok⟩
              unfold dPlan at e
              injection e with e
              injection e with e1 e
              have z := areSizesD_iff.mpr ⟨s, e1, ok.1⟩
              have z : (decide (1 ≤ (sl.length : Int)) && decide ((sl.length : Int) ≤ 4) && sl.all fun x => isBelowD x 7) = true := z
              rw [Bool.and_eq_true] at z
              have := List.length_filter_eq_length_iff.mpr (List.all_eq_true.mp z.2)
              omega
            · obtain ⟨s, rfl, hs⟩ := all_below c3
              have sok : SizesOk s := ⟨by rw [List.length_map] at c1; omega, by rw [List.length_map] at c2; omega, hs⟩
              rw [decide_eq_false (by
                have := List.length_filter_eq_length_iff.mpr (List.all_eq_true.mp c3)
                omega)]
              refine if_f ?_
              repeat' fail
              refine opt_of (isi_tup pb) (ev_truB ?_)
              cases b with
              | tup wl =>
                refine if_f ?_
                repeat' fail
                by_cases c4 : (24 : Int) < (wl.length : Int)
                · rw [decide_eq_true c4]
                  refine if_t ?_
                  repeat' fail
                  refine no ?_
                  rintro ⟨s', ws, e, ok⟩
                  unfold dPlan at e
                  injection e with e
                  injection e with e1 e
                  injection e with e2 e
                  unfold dWaits at e2
                  injection e2 with e2
                  have := ok.2.1
                  rw [e2, List.length_map] at c4
                  omega
                · rw [decide_eq_false c4]
                  refine if_f ?_
                  repeat' fail
                  have notw : ∀ y ∈ wl, canWaitD s y = false → ¬ IsPlan (.tup [.tup (s.map .int), .tup wl]) := by
                    rintro y hy hc ⟨s', ws, e, ok⟩
                    unfold dPlan at e
                    injection e with e
                    injection e with e1 e
                    injection e with e2 e
                    have e1 : dInts s = dInts s' := e1
                    have := dInts_inj e1
                    subst this
                    unfold dWaits at e2
                    injection e2 with e2
                    rw [e2] at hy
                    obtain ⟨w, hw, rfl⟩ := List.mem_map.mp hy
                    rw [canWaitD_iff.mpr ⟨w, rfl, ok.2.2.1 w hw⟩] at hc
                    cases hc
                  refine for_ind (J := fun xs e m => m = n ∧ (∀ y ∈ xs, y ∈ wl) ∧ (∃ us, wl = us ++ xs ∧ us.all (canWaitD s) = true) ∧ ∃ a b c d, e = [some (.d (.tup [.tup (s.map .int), .tup wl])), some (.d (.tup (s.map .int))), some (.d (.tup wl)), a, b, none, c, d]) ?_ ?_ _ _ _ ⟨rfl, fun y hy => hy, ⟨[], rfl, rfl⟩, _, _, _, _, rfl⟩
                  · rintro e m ⟨rfl, _, ⟨us, e0, hus⟩, a, b, c, d, rfl⟩
                    rw [List.append_nil] at e0
                    subst e0
                    obtain ⟨ws, rfl, hw⟩ := all_waits hus
                    repeat' fail
                    rw [List.length_map] at c4 ⊢
                    refine ⟨by omega, ?_⟩
                    rw [rng1]
                    refine ⟨by rw [List.length_map, List.length_range]; omega, ?_⟩
                    refine lc_filter _ (fun (i : Nat) => .int (1 + (i : Int))) (fun i => !ltW (ws.getD i W0) (ws.getD (i + 1) W0)) _ [] (fun i hi R S' hR hS => ?_) ?_
                    · have hi := List.mem_range.mp hi
                      have g : ∀ j : Nat, j < ws.length → atI (ws.map dWait) (j : Int) = some (dWait (ws.getD j W0)) := fun j hj => by
                        rw [atI_nn (by omega), Int.toNat_natCast, List.getElem?_map, List.getD_eq_getElem?_getD, List.getElem?_eq_getElem hj]
                        rfl
                      refine opt_of rfl ?_
                      repeat' fail
                      rw [show (1 + (i : Int) - 1) = ((i : Nat) : Int) by omega]
                      refine ev_ixT.mpr (opt_of (g i (by omega)) ?_)
                      repeat' fail
                      rw [show (1 + (i : Int)) = ((i + 1 : Nat) : Int) by omega] at hR ⊢
                      refine ev_ixT.mpr (opt_of (g (i + 1) (by omega)) ?_)
                      refine opt_of (ge_wait _ _) ?_
                      repeat' fail
                      refine bt_if (fun z => ?_) (fun z => hS z)
                      repeat' fail
                      exact hR z
                    rw [List.nil_append]
                    repeat' fail
                    have em : ((List.range ((ws.length : Int) - 1).toNat).filter fun i => !ltW (ws.getD i W0) (ws.getD (i + 1) W0)).map (fun (i : Nat) => D.int (1 + (i : Int))) = (((List.range ((ws.length : Int) - 1).toNat).filter fun i => !ltW (ws.getD i W0) (ws.getD (i + 1) W0)).map fun (i : Nat) => (1 + (i : Int))).map D.int := by
                      rw [List.map_map]
                      rfl
                    rw [em]
                    refine ⟨of_decide_eq_true rfl, opt_of (eq_ints _) ?_⟩
                    refine q _ ?_
                    rw [List.isEmpty_iff, List.map_eq_nil_iff, List.filter_eq_nil_iff]
                    have key : ascW ws = true ↔ ∀ i ∈ List.range ((ws.length : Int) - 1).toNat, ¬ (!ltW (ws.getD i W0) (ws.getD (i + 1) W0)) = true := by
                      rw [asc_iff]
                      constructor
                      · intro h i hi
                        have hi := List.mem_range.mp hi
                        rw [h i (by omega)]
                        decide
                      · intro h i hi
                        have := h i (List.mem_range.mpr (by omega))
                        simpa using this
                    rw [← key]
                    constructor
                    · intro h
                      exact ⟨s, ws, rfl, sok, by omega, hw, h⟩
                    · rintro ⟨s', ws', e, ok⟩
                      have e : dPlan s ws = dPlan s' ws' := e
                      obtain ⟨rfl, rfl⟩ := dPlan_inj e
                      exact ok.2.2.2
                  · rintro y ys e m p ⟨rfl, hys, ⟨us, e0, hus⟩, a, b, c, d, rfl⟩ hp2
                    have hy : y ∈ wl := hys y List.mem_cons_self
                    have fy : Fine 60 10000 y := fb.tup.2 y hy
                    have py := fine_pln fy
                    refine opt_of rfl ?_
                    show dSeq _ _ _ [some (.d (.tup [.tup (s.map .int), .tup wl])), some (.d (.tup (s.map .int))), some (.d (.tup wl)), a, some (.d y), none, c, d] m
                    repeat' fail
                    refine opt_of (isi_tup py) (ev_truB ?_)
                    have bad : canWaitD s y = false → Q (.bl false) m := fun h => no (notw y hy h)
                    cases y with
                    | tup l =>
                      refine if_f ?_
                      repeat' fail
                      by_cases d2 : (l.length : Int) = 2
                      · obtain ⟨j1, j2, rfl⟩ := len2 d2
                        rw [beq_iff_eq.mpr d2]
                        refine if_f ?_
                        repeat' fail
                        refine ⟨of_decide_eq_true rfl, ?_⟩
                        refine lc_map1 (fun x => .bl (hasJobD s x)) [j1, j2] [] (fun z hz R S' hR => ?_) ?_
                        · refine opt_of rfl ?_
                          repeat' fail
                          exact ⟨s, z, rfl, pln_tup py z hz, hR⟩
                        refine opt_of (in_false [hasJobD s j1, hasJobD s j2]) ?_
                        repeat' fail
                        have ec : canWaitD s (.tup [j1, j2]) = (hasJobD s j1 && (hasJobD s j2 && !(queueD j1 == queueD j2))) := rfl
                        rw [ec] at bad
                        cases h1 : hasJobD s j1 with
                        | false =>
                          refine if_t ?_
                          repeat' fail
                          rw [h1] at bad
                          exact bad rfl
                        | true =>
                          cases h2 : hasJobD s j2 with
                          | false =>
                            refine if_t ?_
                            repeat' fail
                            rw [h1, h2] at bad
                            exact bad rfl
                          | true =>
                            refine if_f ?_
                            rw [h1, h2] at bad ec
                            obtain ⟨j, rfl, hj⟩ := hasJobD_iff.mp h1
                            obtain ⟨k, rfl, hk⟩ := hasJobD_iff.mp h2
                            repeat' fail
                            refine ev_ixT.mpr (opt_of (x := dJob j) rfl ?_)
                            repeat' fail
                            refine ev_job0 ?_
                            repeat' fail
                            refine ev_ixT.mpr (opt_of (x := dJob k) rfl ?_)
                            repeat' fail
                            refine ev_job0 ?_
                            repeat' fail
                            by_cases d3 : j.1 = k.1
                            · rw [beq_iff_eq.mpr d3]
                              refine if_t ?_
                              repeat' fail
                              refine bad ?_
                              show (true && (true && !(some j.1 == some k.1))) = false
                              rw [d3]
                              simp
                            · rw [beq_eq_false_iff_ne.mpr d3]
                              refine if_f ?_
                              repeat' fail
                              refine hp2 _ _ ⟨rfl, fun z hz => hys z (List.mem_cons_of_mem _ hz), ⟨us ++ [.tup [dJob j, dJob k]], by rw [e0, List.append_assoc]; rfl, ?_⟩, _, _, _, _, rfl⟩
                              rw [List.all_append, hus, List.all_cons, List.all_nil, ec]
                              show (true && ((true && (true && !(some j.1 == some k.1))) && true)) = true
                              simpa using d3
                      · rw [beq_eq_false_iff_ne.mpr d2]
                        refine if_t ?_
                        repeat' fail
                        refine bad ?_
                        match l, d2 with
                        | [], _ => rfl
                        | [_], _ => rfl
                        | _ :: _ :: _ :: _, _ => rfl
                        | [_, _], d2 => exact absurd rfl d2
                    | _ =>
                      refine if_t ?_
                      repeat' fail
                      exact bad rfl
              | _ =>
                refine if_t ?_
                repeat' fail
                refine no ?_
                rintro ⟨s', ws, e, ok⟩
                unfold dPlan at e
                injection e with e
                injection e with e1 e
                injection e with e2 e
                cases e2
          · rw [decide_eq_false c2]
            refine if_t ?_
            repeat' fail
            refine no ?_
            rintro ⟨s, ws, e, ok⟩
            unfold dPlan at e
            injection e with e
            injection e with e1 e
            unfold dInts at e1
            injection e1 with e1
            have := ok.1.2.1
            rw [e1, List.length_map] at c2
            omega
        · rw [decide_eq_false c1]
          refine if_f ?_
          repeat' fail
          refine no ?_
          rintro ⟨s, ws, e, ok⟩
          unfold dPlan at e
          injection e with e
          injection e with e1 e
          unfold dInts at e1
          injection e1 with e1
          have := ok.1.1
          rw [e1, List.length_map] at c1
          omega
      | _ =>
        refine if_t ?_
        repeat' fail
        refine no ?_
        rintro ⟨s, ws, e, ok⟩
        unfold dPlan at e
        injection e with e
        injection e with e1 e
        cases e1
    · rw [beq_eq_false_iff_ne.mpr c]
      refine if_t ?_
      repeat' fail
      refine no ?_
      rintro ⟨s, ws, e, ok⟩
      unfold dPlan at e
      injection e with e
      rw [e] at c
      exact c rfl
  | _ =>
    refine if_t ?_
    repeat' fail
    refine no ?_
    rintro ⟨s, ws, e, ok⟩
    cases e
end Ka

set_option Elab.async false
set_option linter.all false
set_option maxRecDepth 100000
set_option maxHeartbeats 4000000
namespace Ka
open PySem L2 VD VS PenM Pl Lb
local macro_rules | `(tactic| fail) => `(tactic| with_reducible first | refine s_next.mpr ?_ | refine s_seq.mpr ?_ | refine s_ifS.mpr ?_ | refine s_if.mpr ?_ | refine s_ret.mpr ?_ | refine s_T.mpr ?_ | refine s_Tr.mpr ?_ | refine s_notT.mpr ?_ | refine s_andT.mpr ?_ | refine s_orT.mpr ?_ | refine s_and.mpr ?_ | refine s_or.mpr ?_ | refine s_not.mpr ?_ | refine s_set.mpr ?_ | refine s_setO.mpr ?_ | refine s_2.mpr ?_ | refine s_1.mpr ?_ | refine s_C.mpr ?_ | refine var_at rfl ?_ | refine own_at rfl ?_ | refine s_cons.mpr ?_ | refine s_nil.mpr ?_ | refine s_call.mpr ?_ | refine s_callE.mpr ?_ | refine arg1 ?_ | refine arg2 ?_ | refine arg3 ?_ | refine arg4 ?_ | refine s_tup.mpr ?_ | refine s_lst.mpr ?_ | refine s_mt.mpr ?_ | refine s_ch.mpr ?_ | refine s_asg.mpr ?_ | refine s_par.mpr ?_ | refine s_drop.mpr ?_ | refine s_raise.mpr ?_ | refine s_iL.mpr ?_ | refine s_iT.mpr ?_ | refine s_iEL.mpr ?_ | refine s_iET.mpr ?_ | refine s_iR1.mpr ?_ | refine s_iR2.mpr ?_ | refine s_iZp.mpr ?_ | refine s_lc.mpr ?_ | refine s_for.mpr ?_ | refine s_gen.mpr ?_ | refine s_sl.mpr ?_ | refine s_no.mpr ?_ | refine s_pt.mpr ?_ | refine s_yes.mpr ?_ | refine app_at rfl ?_ | refine ext_at rfl ?_ | refine frz_at rfl ?_ | refine ev_asB.mpr ?_ | refine ev_truB ?_ | refine ev_asL.mpr ?_ | refine ev_asTp.mpr ?_ | refine ev_asI.mpr ?_ | refine ev_add.mpr ?_ | refine ev_sub.mpr ?_ | refine ev_neg.mpr ?_ | refine ev_le.mpr ?_ | refine ev_lt.mpr ?_ | refine ev_ge.mpr ?_ | refine ev_gt.mpr ?_ | refine ev_eqI.mpr ?_ | refine ev_neI.mpr ?_ | refine ev_lenT.mpr ?_ | refine ev_lenL.mpr ?_ | refine ev_toT.mpr ?_ | refine ev_toLT.mpr ?_ | refine ev_toL.mpr ?_ | refine ev_isN.mpr ?_ | refine ev_slT.mpr ?_ | refine ev_slLL.mpr ?_ | refine if_t ?_ | refine if_f ?_)
local macro_rules | `(tactic| fail) => `(tactic| with_reducible first | refine ev_catL.mpr ?_ | refine ev_catT.mpr ?_ | refine s_lc2.mpr ?_ | refine s_own1.mpr ?_ | refine own_at rfl ?_ | refine s_try.mpr ?_)
local macro_rules | `(tactic| fail) => `(tactic| with_reducible first | refine lx0 ?_ | refine lx1 ?_ | refine lx2 ?_ | refine lx3 ?_ | refine lx4 ?_ | refine lx5 ?_ | refine lx6 ?_ | refine lx7 ?_ | refine lx8 ?_ | refine lx9 ?_ | refine lx10 ?_ | refine lx11 ?_ | refine lx12 ?_ | refine lx13 ?_ | refine lx14 ?_ | refine lx15 ?_ | refine lx16 ?_)
/-! ### slices of mapped lists -/
def cutG {α : Type} (l : List α) (lo hi : Option Int) : List α := (l.drop (HT.sIx l.length 0 lo)).take (HT.sIx l.length l.length hi - HT.sIx l.length 0 lo)
theorem cut_map {α : Type} (f : α → D) (l : List α) (lo hi : Option Int) : cutD (l.map f) lo hi = (cutG l lo hi).map f := by
  unfold cutD cutG
  rw [List.length_map, ← List.map_drop, ← List.map_take]
theorem cutG_to {α : Type} (l : List α) (k : Nat) : cutG l none (some (k : Int)) = l.take k := by
  unfold cutG
  rw [HT.sIx_none, HT.sIx_nat, List.drop_zero, Nat.sub_zero, ← List.take_eq_take_min]
theorem cutG_from {α : Type} (l : List α) (k : Nat) : cutG l (some (k : Int)) none = l.drop k := by
  unfold cutG
  rw [HT.sIx_none, HT.sIx_nat]
  by_cases h : k ≤ l.length
  · rw [Nat.min_eq_left h, List.take_of_length_le (by rw [List.length_drop]; exact Nat.le_refl _)]
  · rw [Nat.min_eq_right (by omega), List.drop_of_length_le (by omega), List.drop_of_length_le (by omega), List.take_nil]
theorem cutG_mem {α : Type} {l : List α} {lo hi : Option Int} {x : α} (h : x ∈ cutG l lo hi) : x ∈ l := List.mem_of_mem_drop (List.mem_of_mem_take h)
theorem cutG_len {α : Type} (l : List α) (lo hi : Option Int) : (cutG l lo hi).length ≤ l.length := by
  unfold cutG
  rw [List.length_take, List.length_drop]
  omega
/-! ### values that are no plans -/
theorem ltW_irr (a : Wait) : ltW a a = false := by
  rw [← Bool.not_eq_true, ltW_iff]
  omega
theorem ltW_asym {a b : Wait} (h : ltW a b = true) : ltW b a = false := by
  rw [← Bool.not_eq_true, ltW_iff]
  rw [ltW_iff] at h
  omega
section
variable {s : List Int} {ws : List Wait}
theorem bad_asc (ok : PlanOk s ws) {vs : List Wait} (hv : ∀ v ∈ vs, v ∈ ws) (hl : vs.length ≤ 48) (ha : ascW vs = false) : BadOk (.tup [dInts s, .tup (vs.map dWait)]) := by
  refine ⟨(fine_plan (s := s) (ws := vs) (by have := ok.1.2.1; omega) ok.1.2.2 hl fun w hw => small_plan ok w (hv w hw)).mono (by decide) (by decide), ?_⟩
  rintro ⟨s', ws', e, ok'⟩
  have e : dPlan s vs = dPlan s' ws' := e
  obtain ⟨rfl, rfl⟩ := dPlan_inj e
  rw [ok'.2.2.2] at ha
  cases ha
def unWait : D → Option Wait
  | .tup [a, b] => match unJob a, unJob b with
    | some a, some b => some (a, b)
    | _, _ => none
  | _ => none
def notWB (x : D) : Bool := match unWait x with
  | some w => decide (w.1.1 = w.2.1 ∨ w.1.1 < 0 ∨ 4 ≤ w.1.1 ∨ w.1.2 < 0 ∨ 7 ≤ w.1.2 ∨ w.2.1 < 0 ∨ 4 ≤ w.2.1 ∨ w.2.2 < 0 ∨ 7 ≤ w.2.2)
  | none => true
theorem notWB_ok {x : D} (h : notWB x = true) (ok : SizesOk s) {w : Wait} (hw : waitOf s w) : x ≠ dWait w := by
  rintro rfl
  have h : decide (w.1.1 = w.2.1 ∨ w.1.1 < 0 ∨ 4 ≤ w.1.1 ∨ w.1.2 < 0 ∨ 7 ≤ w.1.2 ∨ w.2.1 < 0 ∨ 4 ≤ w.2.1 ∨ w.2.2 < 0 ∨ 7 ≤ w.2.2) = true := h
  rw [decide_eq_true_eq] at h
  obtain ⟨⟨a1, a2, a3, a4⟩, ⟨b1, b2, b3, b4⟩, c⟩ := hw
  have l4 := ok.2.1
  have g : ∀ q : Int, 0 ≤ q → q < s.length → s.getD q.toNat 0 < 7 := fun q h1 h2 => by
    have hm : s.getD q.toNat 0 ∈ s := by
      rw [List.getD_eq_getElem?_getD, List.getElem?_eq_getElem (by omega : q.toNat < s.length)]
      exact List.getElem_mem _
    exact (ok.2.2 _ hm).2
  have := g _ a1 a2
  have := g _ b1 b2
  omega
theorem bad_wait (ok : PlanOk s ws) {l : List D} {x : D} (hx : x ∈ l) (h : notWB x = true) (hf : ∀ y ∈ l, Fine 3 60 y) (hl : l.length ≤ 30) : BadOk (.tup [dInts s, .tup l]) := by
  refine ⟨(fine_pair ((fi ok).mono (d' := 4) (L' := 1900) (by decide) (by decide)) ((fine_tup (m := 30) hf hl).mono (by decide) (by decide))).mono (by decide) (by decide), ?_⟩
  rintro ⟨s', ws', e, ok'⟩
  unfold dPlan at e
  injection e with e
  injection e with e1 e
  injection e with e2 e
  unfold dWaits at e2
  injection e2 with e2
  rw [e2] at hx
  obtain ⟨w, hw, rfl⟩ := List.mem_map.mp hx
  exact notWB_ok h ok'.1 (ok'.2.2.1 w hw) rfl
theorem bad_sizes (ok : PlanOk s ws) {i : Int} (h : i < 0 ∨ 7 ≤ i) (hf : Fine 0 4 (.int i)) : BadOk (.tup [.tup (s.map .int ++ [.int i]), .tup []]) := by
  refine ⟨?_, ?_⟩
  · refine (fine_pair (d := 3) (L := 1444) ((fine_tup (d := 0) (L := 4) (m := 8) (fun y hy => ?_) (by rw [List.length_append, List.length_map, List.length_singleton]; have := ok.1.2.1; omega)).mono (by decide) (by decide)) (f0 (by kernel_rfl))).mono (by decide) (by decide)
    rcases List.mem_append.mp hy with hy | hy
    · obtain ⟨w, hw, rfl⟩ := List.mem_map.mp hy
      obtain ⟨a, b⟩ := ok.1.2.2 w hw
      exact (fine_small a (by omega)).mono (by decide) (by decide)
    · rw [List.mem_singleton.mp hy]
      exact hf
  · rintro ⟨s', ws', e, ok'⟩
    unfold dPlan at e
    injection e with e
    injection e with e1 e
    have e1 : dInts (s ++ [i]) = dInts s' := by
      rw [← e1]
      unfold dInts
      rw [List.map_append]
      rfl
    have := dInts_inj e1
    subst this
    have := ok'.1.2.2 i (List.mem_append_right _ List.mem_cons_self)
    omega
def wrongL : List D := [.tup [.tup [.int 0, .int 0], .tup [.int 0, .int 0]], .tup [.tup [.int 0, .int 0], .tup [.int 7, .int 0]], .tup [.tup [.int 0, .int 9], .tup [.int 1, .int 0]], .tup [.tup [.bl true, .int 0], .tup [.int 1, .int 0]],
  .tup [.tup [.int 0, .int 0]], .non, .str "wait", .lst [.tup [.int 0, .int 0], .tup [.int 1, .int 0]], .tup [.tup [.int 0, .int 0], .tup [.int 1, .int 0], .tup [.int 2, .int 0]], .tup [.tup [.int 0, .int (-1)], .tup [.int 1, .int 0]], .tup [.tup [.int 0, .non], .tup [.int 1, .int 0]],
  .tup [.tup [.lst [.int 0], .int 0], .tup [.int 1, .int 0]]]
theorem wrong_ok {x : D} (h : x ∈ wrongL) : Fine 3 60 x ∧ notWB x = true := by
  have z : (wrongL.all fun x => fineB 3 60 x && notWB x) = true := by kernel_rfl
  have := List.all_eq_true.mp z x h
  rw [Bool.and_eq_true] at this
  exact ⟨fineB_ok this.1, this.2⟩
theorem ws_fine (ok : PlanOk s ws) : ∀ y ∈ ws.map dWait, Fine 3 60 y := fun y hy => by
  obtain ⟨w, hw, rfl⟩ := List.mem_map.mp hy
  exact (fine_wait (small_plan ok w hw)).mono (by decide) (by decide)
def badB (s : List Int) (ws : List Wait) (x1 x2 : D) : List D := [.non, .tup [], dInts s, .lst [dInts s, dWaits ws], .tup [dInts s], .tup [dInts s, dWaits ws, .tup []], .tup [dInts s, .lst (ws.map dWait)], .tup [.lst (s.map .int), dWaits ws],
  .tup [.tup [], .tup []], .tup [.tup (s.map .int ++ [.int 7]), .tup []], .tup [.tup (s.map .int ++ [.int (-1)]), .tup []], .tup [.tup [.int 1, .int 1, .int 1, .int 1, .int 1], .tup []], .tup [.tup [.bl true], .tup []], .tup [.tup [.non], .tup []],
  .int 7, .str "p", .tup [dInts s, .tup (ws.map dWait ++ [x1])], .tup [dInts s, .tup ([x2] ++ ws.map dWait)], .tup [dInts s, .non]]
def badC : List D := [.tup [.tup [.int 3, .int 3], .tup [.tup [.tup [.int 0, .int 0], .tup [.int 0, .int 1]]]], .tup [.tup [.lst [.int 1]], .tup []], .bl true]
theorem bad_int (ok : PlanOk s ws) : BadOk (dInts s) := ⟨(fi ok).mono (by decide) (by decide), by
  rintro ⟨s', ws', e, _⟩
  unfold dInts dPlan at e
  injection e with e
  cases s with
  | nil => cases e
  | cons i s => cases e⟩
theorem badB_ok (ok : PlanOk s ws) {x1 x2 : D} (h1 : x1 ∈ wrongL) (h2 : x2 ∈ wrongL) : ∀ y ∈ badB s ws x1 x2, BadOk y := by
  have l24 := ok.2.1
  have hw := ws_fine ok
  unfold badB
  repeat' with_reducible first
    | refine bad_1 ?_ ?_
    | exact bad_0
  all_goals with_reducible first
    | exact bad_int ok
    | exact b_5 ok
    | exact b_6 ok
    | exact b_7 ok
    | exact b_8 ok
    | exact b_9 ok
    | exact b_10 ok
    | exact bad_sizes ok (by omega) (fineB_ok (by kernel_rfl))
    | exact bad_wait ok (List.mem_append_right _ List.mem_cons_self) (wrong_ok h1).2 (fun y hy => (List.mem_append.mp hy).elim (hw y) fun z => by rw [List.mem_singleton.mp z]; exact (wrong_ok h1).1) (by rw [List.length_append, List.length_map, List.length_singleton]; omega)
    | exact bad_wait ok (List.mem_append_left _ List.mem_cons_self) (wrong_ok h2).2 (fun y hy => (List.mem_append.mp hy).elim (fun z => by rw [List.mem_singleton.mp z]; exact (wrong_ok h2).1) (hw y)) (by rw [List.length_append, List.length_map, List.length_singleton]; omega)
    | exact bad_c (by kernel_rfl)
theorem badC_ok : ∀ y ∈ badC, BadOk y := by
  unfold badC
  repeat' with_reducible first
    | refine bad_1 ?_ ?_
    | exact bad_0
  all_goals exact bad_c (by kernel_rfl)
end
theorem cat_I {s : List Int} {l : List D} {k : D → Prop} (h1 : s.length + l.length ≤ 100000) (h : k (.tup (s.map .int ++ l))) : opt (fCatT (dInts s) (.tup l)) k := by
  unfold dInts
  exact ev_catT.mpr ⟨by rw [List.length_map]; exact h1, h⟩
theorem cat_W2 {ws : List Wait} {l : List D} {k : D → Prop} (h1 : l.length + ws.length ≤ 100000) (h : k (.tup (l ++ ws.map dWait))) : opt (fCatT (.tup l) (dWaits ws)) k := by
  unfold dWaits
  exact ev_catT.mpr ⟨by rw [List.length_map]; exact h1, h⟩
theorem sl_W {ws : List Wait} {a b : Option Int} {k : D → Prop} (h : k (.tup ((cutG ws a b).map dWait))) : opt (fSlT (dWaits ws) a b) k := by
  unfold dWaits
  refine ev_slT.mpr ?_
  rw [cut_map]
  exact h
theorem cat_M {us vs : List Wait} {k : D → Prop} (h1 : us.length + vs.length ≤ 100000) (h : k (.tup ((us ++ vs).map dWait))) : opt (fCatT (.tup (us.map dWait)) (.tup (vs.map dWait))) k := by
  refine ev_catT.mpr ⟨by rw [List.length_map, List.length_map]; exact h1, ?_⟩
  rw [← List.map_append]
  exact h
theorem cat_WM {us vs : List Wait} {k : D → Prop} (h1 : us.length + vs.length ≤ 100000) (h : k (.tup ((us ++ vs).map dWait))) : opt (fCatT (dWaits us) (.tup (vs.map dWait))) k := cat_M h1 h
theorem cat_MW {us vs : List Wait} {k : D → Prop} (h1 : us.length + vs.length ≤ 100000) (h : k (.tup ((us ++ vs).map dWait))) : opt (fCatT (.tup (us.map dWait)) (dWaits vs)) k := cat_M h1 h
def tfBadA : TF := fun l n Q _ => ∃ s ws, l = [.pen, dPlan s ws] ∧ PlanOk s ws ∧ n < 900000 ∧ ∀ x n', BadOk x → n ≤ n' → n' ≤ n + 3 → Q x n'
theorem bad_plan_ok : ∀ l n Q E, tfBadA l n Q E → bodyTF 7 (b__law_bad_plan tfJobs tfOne) l n Q E := by
  intro l n Q E ⟨s, ws, e, ok, hn, q⟩
  subst e
  show b__law_bad_plan tfJobs tfOne E ⟨fun _ m => Q .non m, Q, fun _ _ => False, fun _ _ => False⟩ [some (.d .pen), some (.d (dPlan s ws)), none, none, none, none, none] n
  have lw : ws.length ≤ 24 := ok.2.1
  have ls : s.length ≤ 4 := ok.1.2.1
  unfold b__law_bad_plan
  repeat' fail
  refine opt_of rfl ?_
  repeat' fail
  refine ⟨s, rfl, ls, ok.1.2.2, ?_⟩
  repeat' first
    | fail
    | with_reducible refine And.intro (by with_unfolding_all exact of_decide_eq_true rfl) ?_
    | done
  refine opt_of (x := .lst [dInts s, dWaits ws]) rfl ?_
  repeat' first
    | fail
    | with_reducible refine toL_I ?_
    | with_reducible refine toL_W ?_
    | with_reducible refine And.intro (by with_unfolding_all exact of_decide_eq_true rfl) ?_
    | done
  repeat' first
    | fail
    | with_reducible refine cat_I (by simp only [List.length_cons, List.length_nil]; omega) ?_
    | with_reducible refine opt_of (x := .tup [.int 1, .int 1, .int 1, .int 1, .int 1]) (by with_unfolding_all rfl) ?_
    | with_reducible refine And.intro (by with_unfolding_all exact of_decide_eq_true rfl) ?_
    | done
  refine ⟨wrongL, by with_unfolding_all rfl, (fun z => by cases z), of_decide_eq_true rfl, by omega, fun x1 hx1 n1 a1 a2 => ?_⟩
  repeat' first
    | fail
    | with_reducible refine cat_W (by simp only [List.length_cons, List.length_nil]; omega) ?_
    | with_reducible refine And.intro (by with_unfolding_all exact of_decide_eq_true rfl) ?_
    | done
  refine ⟨wrongL, by with_unfolding_all rfl, (fun z => by cases z), of_decide_eq_true rfl, by omega, fun x2 hx2 n2 a3 a4 => ?_⟩
  repeat' first
    | fail
    | with_reducible refine cat_W2 (by simp only [List.length_cons, List.length_nil]; omega) ?_
    | with_reducible refine ev_lenW ?_
    | with_reducible refine And.intro (by with_unfolding_all exact of_decide_eq_true rfl) ?_
    | done
  have third : ∀ L : List D, (∀ y ∈ L, BadOk y) → L.length ≤ 30 → (dRet (dCall 2 tfOne E (dCons (dVar 0) (dCons (d2 fCatL (dVar 6) (dLst (dCons (dTup (dCons (dTup (dCons (dC (.int 3)) (dCons (dC (.int 3)) dNil))) (dCons (dTup (dCons (dTup (dCons (dTup (dCons (dC (.int 0)) (dCons (dC (.int 0)) dNil))) (dCons (dTup (dCons (dC (.int 0)) (dCons (dC (.int 1)) dNil))) dNil))) dNil)) dNil))) (dCons (dTup (dCons (dTup (dCons (dLst (dCons (dC (.int 1)) dNil)) dNil)) (dCons (dTup dNil) dNil))) (dCons (dC (.bl true)) dNil))))) dNil)))) ⟨fun _ m => Q .non m, Q, fun _ _ => False, fun _ _ => False⟩ [some (.d .pen), some (.d (dPlan s ws)), some (.d (dInts s)), some (.d (dWaits ws)), some (.d (.lst ((jobsL s).map dJob))), some (.d (.lst wrongL)), some (.d (.lst L))] n2 := by
    intro L hL hl
    repeat' first
      | fail
      | with_reducible refine And.intro (by with_unfolding_all exact of_decide_eq_true rfl) ?_
      | done
    refine ⟨by simp only [List.length_cons, List.length_nil]; omega, ?_⟩
    repeat' fail
    refine ⟨L ++ badC, rfl, (fun z => by have := congrArg List.length z; simp [badC] at this), by rw [List.length_append]; show L.length + 3 < _; omega, by omega, fun x hx n3 a5 a6 => q x n3 ?_ (by omega) (by omega)⟩
    exact (List.mem_append.mp hx).elim (hL x) (badC_ok x)
  have second : ∀ L : List D, (∀ y ∈ L, BadOk y) → L.length ≤ 28 → (dSeq (dIfS (dT (d2 fGt (d1 fLen (dVar 3)) (dC (.int 1)))) (dSet 6 (d2 fCatL (dVar 6) (dLst (dCons (dTup (dCons (dVar 2) (dCons (d1 fBackT (dVar 3)) dNil))) (dCons (dTup (dCons (dVar 2) (dCons (d2 fCatT (d2 fCatT (dSl fSlT (dVar 3) (dPt (dC (.int 1))) (dPt (dC (.int 2)))) (dSl fSlT (dVar 3) dNo (dPt (dC (.int 1))))) (dSl fSlT (dVar 3) (dPt (dC (.int 2))) dNo)) dNil))) dNil))))) dNext) (dRet (dCall 2 tfOne E (dCons (dVar 0) (dCons (d2 fCatL (dVar 6) (dLst (dCons (dTup (dCons (dTup (dCons (dC (.int 3)) (dCons (dC (.int 3)) dNil))) (dCons (dTup (dCons (dTup (dCons (dTup (dCons (dC (.int 0)) (dCons (dC (.int 0)) dNil))) (dCons (dTup (dCons (dC (.int 0)) (dCons (dC (.int 1)) dNil))) dNil))) dNil)) dNil))) (dCons (dTup (dCons (dTup (dCons (dLst (dCons (dC (.int 1)) dNil)) dNil)) (dCons (dTup dNil) dNil))) (dCons (dC (.bl true)) dNil))))) dNil))))) ⟨fun _ m => Q .non m, Q, fun _ _ => False, fun _ _ => False⟩ [some (.d .pen), some (.d (dPlan s ws)), some (.d (dInts s)), some (.d (dWaits ws)), some (.d (.lst ((jobsL s).map dJob))), some (.d (.lst wrongL)), some (.d (.lst L))] n2 := by
    intro L hL hl
    repeat' first
      | fail
      | with_reducible refine ev_lenW ?_
      | with_reducible refine And.intro (by with_unfolding_all exact of_decide_eq_true rfl) ?_
      | done
    by_cases c : 1 < (ws.length : Int)
    · rw [decide_eq_true c]
      refine if_t ?_
      match ws, c, ok, lw, third with
      | w0 :: w1 :: wr, c, ok, lw, third =>
        have ha := ok.2.2.2
        have h01 : ltW w0 w1 = true := (Bool.and_eq_true_iff.mp (show (ltW w0 w1 && ascW (w1 :: wr)) = true from ha)).1
        have hc : ∀ a b, (cutG (w0 :: w1 :: wr) a b).length ≤ 24 := fun a b => Nat.le_trans (cutG_len _ _ _) lw
        repeat' fail
        refine opt_of (x := .tup ((w0 :: w1 :: wr).reverse.map dWait)) (by show some (D.tup ((w0 :: w1 :: wr).map dWait).reverse) = _; rw [List.map_reverse]) ?_
        repeat' first
          | fail
          | with_reducible refine sl_W ?_
          | done
        refine ⟨by rw [List.length_map, List.length_map]; have h1 := hc (some 1) (some 2); have h2 := hc none (some 1); omega, ?_⟩
        rw [← List.map_append]
        repeat' first
          | fail
          | with_reducible refine sl_W ?_
          | done
        refine ⟨by rw [List.length_map, List.length_map, List.length_append]; have h1 := hc (some 1) (some 2); have h2 := hc none (some 1); have h3 := hc (some 2) none; omega, ?_⟩
        rw [← List.map_append]
        repeat' fail
        refine ⟨by simp only [List.length_cons, List.length_nil]; omega, third _ ?_ (by rw [List.length_append]; simp only [List.length_cons, List.length_nil]; omega)⟩
        refine bad_a hL (bad_1 ?_ (bad_1 ?_ bad_0))
        · refine bad_asc ok (fun v hv => List.mem_reverse.mp hv) (by rw [List.length_reverse]; omega) ?_
          rw [← Bool.not_eq_true, asc_iff]
          intro z
          have := z wr.length (by rw [List.length_reverse]; simp)
          have e1 : (w0 :: w1 :: wr).reverse.getD wr.length W0 = w1 := by simp
          have e2 : (w0 :: w1 :: wr).reverse.getD (wr.length + 1) W0 = w0 := by simp
          rw [e1, e2, ltW_asym h01] at this
          cases this
        · have e1 : cutG (w0 :: w1 :: wr) (some 1) (some 2) = [w1] := by
            unfold cutG
            rw [show (some 1 : Option Int) = some ((1 : Nat) : Int) from rfl, show (some 2 : Option Int) = some ((2 : Nat) : Int) from rfl, HT.sIx_nat, HT.sIx_nat, Nat.min_eq_left (by simp), Nat.min_eq_left (by simp)]
            rfl
          have e2 : cutG (w0 :: w1 :: wr) none (some 1) = [w0] := cutG_to _ 1
          have e3 : cutG (w0 :: w1 :: wr) (some 2) none = wr := cutG_from _ 2
          rw [e1, e2, e3]
          refine bad_asc ok (fun v hv => ?_) (by simp only [List.length_append, List.length_cons, List.length_nil] at lw ⊢; omega) ?_
          · have hv : v ∈ w1 :: w0 :: wr := hv
            simp only [List.mem_cons] at hv ⊢
            rcases hv with h | h | h
            · exact .inr (.inl h)
            · exact .inl h
            · exact .inr (.inr h)
          · show (ltW w1 w0 && _) = false
            rw [ltW_asym h01]
            rfl
    · rw [decide_eq_false c]
      exact if_f (s_next.mpr (third L hL (by omega)))
  have base : ∀ y ∈ badB s ws x1 x2, BadOk y := badB_ok ok hx1 hx2
  by_cases c : 0 < (ws.length : Int)
  · rw [decide_eq_true c]
    refine if_t ?_
    match ws, c, ok, lw, second, base with
    | w0 :: wr, c, ok, lw, second, base =>
      have hc : ∀ a b, (cutG (w0 :: wr) a b).length ≤ 24 := fun a b => Nat.le_trans (cutG_len _ _ _) lw
      repeat' first
        | with_reducible refine cat_WM (by have h1 := hc (some (-1)) none; omega) ?_
        | with_reducible refine cat_MW (by have h1 := hc none (some 1); omega) ?_
        | fail
        | with_reducible refine sl_W ?_
        | with_reducible refine And.intro (by with_unfolding_all exact of_decide_eq_true rfl) ?_
        | done
      refine second (badB s (w0 :: wr) x1 x2 ++ [_, _]) ?_ (by rw [List.length_append]; exact of_decide_eq_true rfl)
      refine bad_a base (bad_1 ?_ (bad_1 ?_ bad_0))
      · have e1 : ∃ v ∈ (w0 :: wr), cutG (w0 :: wr) (some (-1)) none = [v] ∧ (w0 :: wr).getD wr.length W0 = v := by
          refine ⟨(w0 :: wr).getD wr.length W0, ?_, ?_, rfl⟩
          · rw [List.getD_eq_getElem?_getD, List.getElem?_eq_getElem (by simp)]
            exact List.getElem_mem _
          · unfold cutG
            have e : HT.sIx (w0 :: wr).length 0 (some (-1)) = wr.length := by
              unfold HT.sIx
              simp
              omega
            rw [e, HT.sIx_none, List.drop_eq_getElem_cons (by simp), List.drop_of_length_le (by simp), List.getD_eq_getElem?_getD, List.getElem?_eq_getElem (by simp)]
            simp
        obtain ⟨v, hv, e1, e2⟩ := e1
        rw [e1]
        refine bad_asc ok (fun u hu => (List.mem_append.mp hu).elim id fun z => by rw [List.mem_singleton.mp z]; exact hv) (by rw [List.length_append, List.length_singleton]; omega) ?_
        rw [← Bool.not_eq_true, asc_iff]
        intro z
        have := z wr.length (by rw [List.length_append]; simp)
        have g1 : ((w0 :: wr) ++ [v]).getD wr.length W0 = v := by
          rw [← e2, List.getD_eq_getElem?_getD, List.getD_eq_getElem?_getD, List.getElem?_append_left (by simp)]
        have g2 : ((w0 :: wr) ++ [v]).getD (wr.length + 1) W0 = v := by simp
        rw [g1, g2, ltW_irr] at this
        cases this
      · have e2 : cutG (w0 :: wr) none (some 1) = [w0] := cutG_to _ 1
        rw [e2]
        refine bad_asc ok (fun v hv => ?_) (by simp only [List.length_append, List.length_cons, List.length_nil] at lw ⊢; omega) ?_
        · have hv : v ∈ w0 :: w0 :: wr := hv
          simp only [List.mem_cons] at hv ⊢
          rcases hv with h | h | h
          · exact .inl h
          · exact .inl h
          · exact .inr h
        · show (ltW w0 w0 && _) = false
          rw [ltW_irr]
          rfl
  · rw [decide_eq_false c]
    refine if_f (s_next.mpr ?_)
    exact second (badB s ws x1 x2) base (of_decide_eq_true rfl)
end Ka

set_option Elab.async false
set_option linter.all false
set_option maxRecDepth 100000
set_option maxHeartbeats 4000000
namespace Ka
open PySem L2 VD VS PenM Pl Lb M04
local macro_rules | `(tactic| fail) => `(tactic| with_reducible first | refine s_next.mpr ?_ | refine s_seq.mpr ?_ | refine s_ifS.mpr ?_ | refine s_if.mpr ?_ | refine s_ret.mpr ?_ | refine s_T.mpr ?_ | refine s_Tr.mpr ?_ | refine s_notT.mpr ?_ | refine s_andT.mpr ?_ | refine s_orT.mpr ?_ | refine s_and.mpr ?_ | refine s_or.mpr ?_ | refine s_not.mpr ?_ | refine s_set.mpr ?_ | refine s_setO.mpr ?_ | refine s_2.mpr ?_ | refine s_1.mpr ?_ | refine s_C.mpr ?_ | refine var_at rfl ?_ | refine own_at rfl ?_ | refine s_cons.mpr ?_ | refine s_nil.mpr ?_ | refine s_call.mpr ?_ | refine s_callE.mpr ?_ | refine arg1 ?_ | refine arg2 ?_ | refine arg3 ?_ | refine arg4 ?_ | refine s_tup.mpr ?_ | refine s_lst.mpr ?_ | refine s_mt.mpr ?_ | refine s_ch.mpr ?_ | refine s_asg.mpr ?_ | refine s_par.mpr ?_ | refine s_drop.mpr ?_ | refine s_raise.mpr ?_ | refine s_iL.mpr ?_ | refine s_iT.mpr ?_ | refine s_iEL.mpr ?_ | refine s_iET.mpr ?_ | refine s_iR1.mpr ?_ | refine s_iR2.mpr ?_ | refine s_iZp.mpr ?_ | refine s_lc.mpr ?_ | refine s_for.mpr ?_ | refine s_gen.mpr ?_ | refine s_sl.mpr ?_ | refine s_no.mpr ?_ | refine s_pt.mpr ?_ | refine s_yes.mpr ?_ | refine app_at rfl ?_ | refine ext_at rfl ?_ | refine frz_at rfl ?_ | refine ev_asB.mpr ?_ | refine ev_truB ?_ | refine ev_asL.mpr ?_ | refine ev_asTp.mpr ?_ | refine ev_asI.mpr ?_ | refine ev_add.mpr ?_ | refine ev_sub.mpr ?_ | refine ev_neg.mpr ?_ | refine ev_le.mpr ?_ | refine ev_lt.mpr ?_ | refine ev_ge.mpr ?_ | refine ev_gt.mpr ?_ | refine ev_eqI.mpr ?_ | refine ev_neI.mpr ?_ | refine ev_lenT.mpr ?_ | refine ev_lenL.mpr ?_ | refine ev_toT.mpr ?_ | refine ev_toLT.mpr ?_ | refine ev_toL.mpr ?_ | refine ev_isN.mpr ?_ | refine ev_slT.mpr ?_ | refine ev_slLL.mpr ?_ | refine if_t ?_ | refine if_f ?_)
local macro_rules | `(tactic| fail) => `(tactic| with_reducible first | refine ev_catL.mpr ?_ | refine ev_catT.mpr ?_ | refine s_lc2.mpr ?_ | refine s_own1.mpr ?_ | refine own_at rfl ?_ | refine s_try.mpr ?_)
local macro_rules | `(tactic| fail) => `(tactic| with_reducible first | refine lx0 ?_ | refine lx1 ?_ | refine lx2 ?_ | refine lx3 ?_ | refine lx4 ?_ | refine lx5 ?_ | refine lx6 ?_ | refine lx7 ?_ | refine lx8 ?_ | refine lx9 ?_ | refine lx10 ?_ | refine lx11 ?_ | refine lx12 ?_ | refine lx13 ?_ | refine lx14 ?_ | refine lx15 ?_ | refine lx16 ?_)
/-! ### what is told of a value -/
structure ErrP (K : PySem.W.Frag) (cls : Nat → Addr) : Prop where
  pe : ∀ i, i < 23 → PySem.W.exmOne K (.ref (cls i)) (.ref (cls 22)) = some true
def tfTold1 : TF := fun l n Q _ => ∃ (so : Int) (x : D), l = [.int so, x] ∧ Fine 60 1000000 x ∧ (¬ IsPlan x → Q (.str "plan") n) ∧
  ((so = 0 ∧ ∀ s ws, x = dPlan s ws → PlanOk s ws → Q (.lst ((jobsL s).map dJob)) n) ∨ (so = 1 ∧ (IsPlan x → Q (.bl false) n)))
theorem told1_ok {K : PySem.W.Frag} {cls : Nat → Addr} (P : ErrP K cls) : ∀ l n Q E, tfTold1 l n Q E → bodyTF 6 (b__law_told K (cls 22) (tfJobsP (cls 0)) (tfIsJob (cls 0)) (tfRefusal cls)) l n Q E := by
  intro l n Q E ⟨so, x, e, hf, hn, h⟩
  subst e
  show b__law_told K (cls 22) (tfJobsP (cls 0)) (tfIsJob (cls 0)) (tfRefusal cls) E ⟨fun _ m => Q .non m, Q, fun _ _ => False, fun _ _ => False⟩ [some (.d (.int so)), some (.d x), none, none, none, none] n
  unfold b__law_told
  have px := fine_pln hf
  obtain ⟨r, er, _, rok⟩ := hf.repr (by decide) (by decide)
  repeat' fail
  refine opt_of (x := [some (.d (.int so)), some (.d x), some (.d .non), some (.d .non), none, none]) rfl ?_
  repeat' fail
  refine opt_of er ?_
  repeat' fail
  refine ⟨no_own rfl, ?_⟩
  have tail1 : ∀ (z : D) (e6 : Option S), Q z n → (dSeq (dIfS (dT (d2 fNe (d1 fRepr (dVar 1)) (dVar 4))) (dRet (dC (.str "changed"))) dNext) (dRet (dIf (dT (d2 fIsN (dVar 2) (dC .non))) (dVar 3) (dCall 1 (tfRefusal cls) E (dCons (dVar 2) dNil))))) ⟨fun _ m => Q .non m, Q, fun _ _ => False, fun _ _ => False⟩ [some (.d (.int so)), some (.d x), some (.d .non), some (.d z), some (.d (.str r)), e6] n := by
    intro z e6 q
    repeat' fail
    refine opt_of er ?_
    repeat' fail
    refine opt_of (str_ne rok) ?_
    repeat' fail
    refine if_t ?_
    repeat' fail
    exact q
  have tail2 : ∀ (e4 e6 : Option S), Q (.str "plan") n → (dSeq (dIfS (dT (d2 fNe (d1 fRepr (dVar 1)) (dVar 4))) (dRet (dC (.str "changed"))) dNext) (dRet (dIf (dT (d2 fIsN (dVar 2) (dC .non))) (dVar 3) (dCall 1 (tfRefusal cls) E (dCons (dVar 2) dNil))))) ⟨fun _ m => Q .non m, Q, fun _ _ => False, fun _ _ => False⟩ [some (.d (.int so)), some (.d x), some (.d (.exc (cls 0) "" [])), e4, some (.d (.str r)), e6] n := by
    intro e4 e6 q
    repeat' fail
    refine opt_of er ?_
    repeat' fail
    refine opt_of (str_ne rok) ?_
    repeat' fail
    refine if_f ?_
    repeat' fail
    exact ⟨0, "", [], _, rfl, .inl ⟨by omega, rfl, rfl, rfl⟩, q⟩
  rcases h with ⟨rfl, h1⟩ | ⟨rfl, h1⟩
  · repeat' fail
    refine if_t ?_
    repeat' fail
    exact ⟨x, rfl, px, fun s ws e ok => tail1 _ _ (h1 s ws e ok), fun np => ⟨P.pe 0 (by omega), tail2 _ _ (hn np)⟩⟩
  · repeat' fail
    refine if_f ?_
    repeat' fail
    exact ⟨x, .non, rfl, px, ⟨_, rfl⟩, fun s ws e ok => tail1 _ _ (h1 ⟨s, ws, e, ok⟩), fun np => ⟨P.pe 0 (by omega), tail2 _ _ (hn np)⟩⟩
/-! ### many waits -/
def tfFull : TF := fun l n Q _ => ∃ m : Nat, l = [.int m] ∧ m ≤ 25 ∧ Q (dPlan [6, 6] (denseW m)) n
theorem full_ok : ∀ l n Q E, tfFull l n Q E → bodyTF 3 b__law_full l n Q E := by
  intro l n Q E ⟨k, e, hk, q⟩
  subst e
  show b__law_full E ⟨fun _ m => Q .non m, Q, fun _ _ => False, fun _ _ => False⟩ [some (.d (.int k)), none, none] n
  unfold b__law_full
  repeat' fail
  refine ⟨by omega, by rw [rng_len]; exact of_decide_eq_true rfl, ?_⟩
  rw [rng_nat]
  refine lc_map _ (fun (i : Nat) => dWait ((0, (i : Int) / 6), (1, (i : Int) % 6))) _ [] (fun i hi R S' hR => ?_) ?_
  · refine opt_of rfl ?_
    repeat' fail
    refine ev_div.mpr ⟨⟨by omega, by omega⟩, ?_⟩
    repeat' fail
    refine ev_mod.mpr ⟨by omega, ?_⟩
    repeat' fail
    exact hR
  repeat' fail
  rw [List.nil_append]
  have e2 : cutD ((List.range (36 : Int).toNat).map fun (i : Nat) => dWait ((0, (i : Int) / 6), (1, (i : Int) % 6))) none (some (k : Int)) = (denseW k).map dWait := by
    rw [cut_map, cutG_to, List.take_range, Nat.min_eq_left (show k ≤ (36 : Int).toNat from by show k ≤ 36; omega)]
    unfold denseW
    rw [List.map_map]
    rfl
  rw [e2]
  exact q
/-! ### plans with something changed -/
def Val (x : D) : Prop := Fine 8 9000 x
theorem fine_v1 {s : List Int} {ws : List Wait} (ok : PlanOk s ws) {A : List D} (hA : ∀ y ∈ A, Fine 1 10 y) (hl : A.length ≤ 16) : Val (.tup [.tup A, dWaits ws]) :=
  (fine_pair (d := 3) (L := 1444) ((fine_tup (m := 16) hA hl).mono (by decide) (by decide)) (fw ok)).mono (by decide) (by decide)
theorem fine_v2 {s : List Int} {ws : List Wait} (ok : PlanOk s ws) {B : List D} (hB : ∀ y ∈ B, Fine 5 100 y) (hl : B.length ≤ 30) : Val (.tup [dInts s, .tup B]) :=
  (fine_pair (d := 6) (L := 3064) ((fi ok).mono (by decide) (by decide)) ((fine_tup (m := 30) hB hl).mono (by decide) (by decide))).mono (by decide) (by decide)
theorem fine_m1 {i : Int} (h0 : -1 ≤ i) (h1 : i < 10) : Fine 0 2 (.int i) := by
  by_cases c : 0 ≤ i
  · exact (fine_small c h1).mono (by decide) (by decide)
  · have : i = -1 := by omega
    subst this
    exact fineB_ok (by kernel_rfl)
theorem cut_both {α : Type} (l : List α) {i : Int} (h : 0 ≤ i) : (cutG l none (some i)).length + (cutG l (some (i + 1)) none).length ≤ l.length := by
  have e1 : i = ((i.toNat : Nat) : Int) := by omega
  have e2 : i + 1 = ((i.toNat + 1 : Nat) : Int) := by omega
  rw [e2, cutG_from]
  rw [e1, cutG_to, List.length_take, List.length_drop]
  simp only [Int.toNat_natCast]
  omega
theorem all_1 {p : D → Prop} {x : D} {l : List D} (h : p x) (h2 : ∀ y ∈ l, p y) : ∀ y ∈ x :: l, p y := fun y hy => by
  rcases List.mem_cons.mp hy with rfl | hy
  · exact h
  · exact h2 y hy
theorem all_0 {p : D → Prop} : ∀ y ∈ ([] : List D), p y := fun _ h => nomatch h
theorem all_a {p : D → Prop} {l m : List D} (h : ∀ y ∈ l, p y) (h2 : ∀ y ∈ m, p y) : ∀ y ∈ l ++ m, p y := fun y hy => (List.mem_append.mp hy).elim (h y) (h2 y)
theorem cut_ints {s : List Int} {ws : List Wait} (ok : PlanOk s ws) (a b : Option Int) : ∀ y ∈ (cutG s a b).map D.int, Fine 1 10 y := fun y hy => by
  obtain ⟨i, hi, rfl⟩ := List.mem_map.mp hy
  have := ok.1.2.2 i (cutG_mem hi)
  exact (fine_small this.1 (by omega)).mono (by decide) (by decide)
theorem cut_wts {s : List Int} {ws : List Wait} (ok : PlanOk s ws) (a b : Option Int) : ∀ y ∈ (cutG ws a b).map dWait, Fine 5 100 y := fun y hy => by
  obtain ⟨w, hw, rfl⟩ := List.mem_map.mp hy
  exact (fine_wait (small_plan ok w (cutG_mem hw))).mono (by decide) (by decide)
theorem sl_I {s : List Int} {a b : Option Int} {k : D → Prop} (h : k (.tup ((cutG s a b).map .int))) : opt (fSlT (dInts s) a b) k := by
  unfold dInts
  refine ev_slT.mpr ?_
  rw [cut_map]
  exact h
theorem ne_waitsT (ws : List Wait) : fNe (dWaits ws) (.tup []) = some (.bl (!ws.isEmpty)) := by
  unfold fNe dWaits
  rw [toP_tup (toPs_waits ws)]
  have sh : SeqAt.shaped (.tuple (ws.map pWait)) = true := by
    have := shp_waits ws
    unfold SeqAt.shaped at this ⊢
    exact this
  show (if (SeqAt.shaped (.tuple (ws.map pWait)) && SeqAt.shaped (.tuple [])) = true then _ else _) = _
  rw [sh]
  show some (D.bl _) = some (D.bl _)
  congr 2
  cases ws <;> rfl
theorem dJob_fine {s : List Int} (ok : SizesOk s) {j : Job} (h : jobOf s j) : Fine 4 45 (dJob j) := (fine_job (small_of ok h)).mono (by decide) (by decide)
def tfChanged : TF := fun l n Q _ => ∃ s ws, l = [.pen, dPlan s ws] ∧ PlanOk s ws ∧ n < 900000 ∧ ∀ (vs : List D) n', (∀ v ∈ vs, Val v) → vs.length ≤ 3 → n ≤ n' → n' ≤ n + 5 → Q (.lst vs) n'
theorem ints_at2 {s : List Int} {i : Int} {k : D → Prop} (h0 : 0 ≤ i) (h1 : i < s.length) (h : k (.int (s.getD i.toNat 0))) : opt (fIxT (dInts s) (.int i)) k := ev_ixT.mpr (opt_of (ints_get h0 h1) h)
theorem changed_ok : ∀ l n Q E, tfChanged l n Q E → bodyTF 13 (b__law_changed tfTake tfOne) l n Q E := by
  intro l n Q E ⟨s, ws, e, ok, hn, q⟩
  subst e
  show b__law_changed tfTake tfOne E ⟨fun _ m => Q .non m, Q, fun _ _ => False, fun _ _ => False⟩ [some (.d .pen), some (.d (dPlan s ws)), none, none, none, none, none, none, none, none, none, none, none] n
  have s4 := ok.1.2.1
  have s1 := ok.1.1
  have w24 := ok.2.1
  unfold b__law_changed
  repeat' fail
  refine opt_of rfl ?_
  repeat' fail
  refine ev_lenI ?_
  repeat' fail
  refine ⟨s.length, rfl, by omega, by omega, by omega, fun at_ at0 at1 n1 a1 a2 => ?_⟩
  have hat := ok.1.2.2 (s.getD at_.toNat 0) (by
    rw [List.getD_eq_getElem?_getD, List.getElem?_eq_getElem (by omega : at_.toNat < s.length)]
    exact List.getElem_mem _)
  repeat' first
    | fail
    | with_reducible refine ints_at2 at0 at1 ?_
    | done
  refine ⟨_, rfl, (fun z => by cases z), of_decide_eq_true rfl, by omega, fun x hx n2 a3 a4 => ?_⟩
  have fx : Fine 1 10 x := by
    revert x
    refine all_1 (fine_m1 (by omega) (by omega) |>.mono (by decide) (by decide)) (all_1 (fine_m1 (by omega) (by omega) |>.mono (by decide) (by decide)) ?_)
    intro y hy
    have z : ([.bl true, .non, .int 0, .int 6, .int 7, .str "3", .tup [.int 3]] : List D).all (fineB 1 10) = true := by kernel_rfl
    exact fineB_ok (List.all_eq_true.mp z y hy)
  repeat' first
    | fail
    | with_reducible refine sl_I ?_
    | done
  refine ⟨by rw [List.length_map]; have := cutG_len s none (some at_); show _ + 1 ≤ _; omega, ?_⟩
  repeat' first
    | fail
    | with_reducible refine sl_I ?_
    | done
  refine ⟨by rw [List.length_append, List.length_map, List.length_map]; have := cutG_len s none (some at_); have := cutG_len s (some (at_ + 1)) none; show _ + 1 + _ ≤ _; omega, ?_⟩
  repeat' fail
  have v1 : Val (.tup [.tup ((cutG s none (some at_)).map D.int ++ [x] ++ (cutG s (some (at_ + 1)) none).map D.int), dWaits ws]) := by
    refine fine_v1 ok (all_a (all_a (cut_ints ok _ _) (all_1 fx all_0)) (cut_ints ok _ _)) ?_
    rw [List.length_append, List.length_append, List.length_map, List.length_map]
    have := cutG_len s none (some at_)
    have := cutG_len s (some (at_ + 1)) none
    show _ + 1 + _ ≤ _
    omega
  refine opt_of (ne_waitsT ws) ?_
  repeat' fail
  by_cases c : ws.isEmpty = true
  · rw [c]
    refine if_f (s_next.mpr ?_)
    repeat' fail
    exact q _ _ (all_1 v1 all_0) (of_decide_eq_true rfl) (by omega) (by omega)
  · rw [Bool.not_eq_true] at c
    rw [c]
    have hw0 : 0 < ws.length := by
      cases ws with
      | nil => cases c
      | cons => exact Nat.succ_pos _
    refine if_t ?_
    repeat' first
      | fail
      | with_reducible refine ev_lenW ?_
      | done
    refine ⟨ws.length, rfl, by omega, by omega, by omega, fun sp sp0 sp1 n3 a5 a6 => ?_⟩
    obtain ⟨w, hw, gw⟩ : ∃ w ∈ ws, fIxT (dWaits ws) (.int sp) = some (dWait w) := by
      refine ⟨ws[sp.toNat]'(by omega), List.getElem_mem _, ?_⟩
      show atI (ws.map dWait) sp = _
      rw [atI_nn sp0, List.getElem?_map, List.getElem?_eq_getElem (by omega : sp.toNat < ws.length)]
      rfl
    obtain ⟨o1, o2, _⟩ := ok.2.2.1 w hw
    obtain ⟨⟨p1, p2⟩, ⟨p3, p4⟩⟩ := w
    have m1 := small_of ok.1 o1
    have m2 := small_of ok.1 o2
    have f1 := dJob_fine ok.1 o1
    have f2 := dJob_fine ok.1 o2
    dsimp only at m1 m2 f1 f2
    repeat' fail
    refine opt_of gw ?_
    refine opt_of (x := _) (show _ = some (([some (.d .pen), some (.d (dPlan s ws)), some (.d (dInts s)), some (.d (dWaits ws)), some (.d (.int at_)), some (.d x), some (.own [D.tup [.tup ((cutG s none (some at_)).map D.int ++ [x] ++ (cutG s (some (at_ + 1)) none).map D.int), dWaits ws]]), some (.d (.int sp)), some (.d (dJob (p1, p2))), some (.d (dJob (p3, p4))), none, none, none] : En)) from rfl) ?_
    repeat' first
      | fail
      | with_reducible refine ev_job0 ?_
      | with_reducible refine ev_job1 ?_
      | done
    refine opt_of (x := .tup [.int p1, .int p2, .int 0]) rfl ?_
    repeat' fail
    refine ⟨_, rfl, (fun z => by cases z), of_decide_eq_true rfl, by omega, fun jx hjx n4 a7 a8 => ?_⟩
    have fj : Fine 4 45 jx := by
      have g : ∀ {i : Int}, 0 ≤ i → i < 10 → Fine 3 13 (.int i) := fun h0 h1 => (fine_small h0 h1).mono (by decide) (by decide)
      have g11 : ∀ {i : Int}, 0 ≤ i → i < 11 → Fine 3 13 (.int i) := fun {i} h0 h1 => by
        by_cases c : i < 10
        · exact g h0 c
        · have : i = 10 := by omega
          subst this
          exact fineB_ok (by kernel_rfl)
      obtain ⟨b1, b2, b3, b4⟩ := m1
      dsimp only at b1 b2 b3 b4
      revert jx
      refine all_1 ((fine_pair (g11 b1 (by omega)) (g11 (by omega) (by omega))).mono (by decide) (by decide)) (all_1 ((fine_pair (g11 (by omega) (by omega)) (g11 b3 (by omega))).mono (by decide) (by decide)) (all_1 f2 (all_1 ((fine_pair (g11 b1 (by omega)) (fineB_ok (by kernel_rfl))).mono (by decide) (by decide)) (all_1 ?_ all_0))))
      exact (fine_3 (d := 0) (L := 2) ((fine_small b1 b2).mono (by decide) (by decide)) ((fine_small b3 b4).mono (by decide) (by decide)) (fineB_ok (by kernel_rfl))).mono (by decide) (by decide)
    repeat' fail
    refine ⟨_, rfl, (fun z => by cases z), of_decide_eq_true rfl, by omega, fun wx hwx n5 a9 a10 => ?_⟩
    have fwx : Fine 5 100 wx := by
      revert wx
      refine all_1 ((fine_pair fj f2).mono (by decide) (by decide)) (all_1 ((fine_pair f1 fj).mono (by decide) (by decide)) (all_1 ((fine_pair f2 f1).mono (by decide) (by decide)) (all_1 ?_ (all_1 ?_ all_0))))
      · exact (fine_lst (m := 2) (all_1 f1 (all_1 f2 all_0)) (Nat.le_refl _)).mono (by decide) (by decide)
      · exact (fine_tup (m := 1) (all_1 f1 all_0) (Nat.le_refl _)).mono (by decide) (by decide)
    have hc : ∀ a b, (cutG ws a b).length ≤ ws.length := fun a b => cutG_len ws a b
    have c0 := cut_both ws sp0
    have c1 := hc none (some sp)
    have c2 := hc (some (sp + 1)) none
    repeat' first
      | fail
      | with_reducible refine sl_W ?_
      | done
    refine ⟨by rw [List.length_map]; show _ + 1 ≤ _; omega, ?_⟩
    repeat' first
      | fail
      | with_reducible refine sl_W ?_
      | done
    refine ⟨by rw [List.length_append, List.length_map, List.length_map]; show _ + 1 + _ ≤ _; omega, ?_⟩
    repeat' fail
    refine ⟨of_decide_eq_true rfl, ?_⟩
    repeat' first
      | fail
      | with_reducible refine sl_W ?_
      | done
    refine ⟨by rw [List.length_map, List.length_map]; omega, ?_⟩
    repeat' fail
    refine ⟨by rw [List.length_append, List.length_map, List.length_map]; show _ + _ + 1 ≤ _; omega, ?_⟩
    have e9 : (cutG ws none (some sp)).map dWait ++ (cutG ws (some (sp + 1)) none).map dWait ++ [D.tup [dJob (p3, p4), dJob (p1, p2)]] = (cutG ws none (some sp) ++ cutG ws (some (sp + 1)) none ++ [((p3, p4), (p1, p2))]).map dWait := by
      rw [List.map_append, List.map_append]
      rfl
    rw [e9]
    refine opt_of (set_waitsT (by rw [List.length_append, List.length_append]; show _ + _ + 1 < _; omega)) ?_
    repeat' fail
    refine ⟨of_decide_eq_true rfl, ?_⟩
    repeat' fail
    refine q _ _ (all_1 v1 (all_1 ?_ (all_1 ?_ all_0))) (of_decide_eq_true rfl) (by omega) (by omega)
    · refine fine_v2 ok (all_a (all_a (cut_wts ok _ _) (all_1 fwx all_0)) (cut_wts ok _ _)) ?_
      rw [List.length_append, List.length_append, List.length_map, List.length_map]
      show _ + 1 + _ ≤ _
      omega
    · refine (fine_plan (s := s) (by omega) ok.1.2.2 (by have := setW_len (cutG ws none (some sp) ++ cutG ws (some (sp + 1)) none ++ [((p3, p4), (p1, p2))]); rw [List.length_append, List.length_append] at this; have e : [((p3, p4), (p1, p2))].length = 1 := rfl; omega) fun v hv => ?_).mono (by decide) (by decide)
      have hv := mem_setW.mp hv
      rcases List.mem_append.mp hv with hv | hv
      · rcases List.mem_append.mp hv with hv | hv
        · exact small_plan ok v (cutG_mem hv)
        · exact small_plan ok v (cutG_mem hv)
      · rw [List.mem_singleton.mp hv]
        exact ⟨m2, m1⟩
end Ka

set_option Elab.async false
set_option linter.all false
set_option maxRecDepth 100000
set_option maxHeartbeats 4000000
namespace Ka
open PySem L2 VD VS PenM Pl Lb M04
local macro_rules | `(tactic| fail) => `(tactic| with_reducible first | refine s_next.mpr ?_ | refine s_seq.mpr ?_ | refine s_ifS.mpr ?_ | refine s_if.mpr ?_ | refine s_ret.mpr ?_ | refine s_T.mpr ?_ | refine s_Tr.mpr ?_ | refine s_notT.mpr ?_ | refine s_andT.mpr ?_ | refine s_orT.mpr ?_ | refine s_and.mpr ?_ | refine s_or.mpr ?_ | refine s_not.mpr ?_ | refine s_set.mpr ?_ | refine s_setO.mpr ?_ | refine s_2.mpr ?_ | refine s_1.mpr ?_ | refine s_C.mpr ?_ | refine var_at rfl ?_ | refine own_at rfl ?_ | refine s_cons.mpr ?_ | refine s_nil.mpr ?_ | refine s_call.mpr ?_ | refine s_callE.mpr ?_ | refine arg1 ?_ | refine arg2 ?_ | refine arg3 ?_ | refine arg4 ?_ | refine s_tup.mpr ?_ | refine s_lst.mpr ?_ | refine s_mt.mpr ?_ | refine s_ch.mpr ?_ | refine s_asg.mpr ?_ | refine s_par.mpr ?_ | refine s_drop.mpr ?_ | refine s_raise.mpr ?_ | refine s_iL.mpr ?_ | refine s_iT.mpr ?_ | refine s_iEL.mpr ?_ | refine s_iET.mpr ?_ | refine s_iR1.mpr ?_ | refine s_iR2.mpr ?_ | refine s_iZp.mpr ?_ | refine s_lc.mpr ?_ | refine s_for.mpr ?_ | refine s_gen.mpr ?_ | refine s_sl.mpr ?_ | refine s_no.mpr ?_ | refine s_pt.mpr ?_ | refine s_yes.mpr ?_ | refine app_at rfl ?_ | refine ext_at rfl ?_ | refine frz_at rfl ?_ | refine ev_asB.mpr ?_ | refine ev_truB ?_ | refine ev_asL.mpr ?_ | refine ev_asTp.mpr ?_ | refine ev_asI.mpr ?_ | refine ev_add.mpr ?_ | refine ev_sub.mpr ?_ | refine ev_neg.mpr ?_ | refine ev_le.mpr ?_ | refine ev_lt.mpr ?_ | refine ev_ge.mpr ?_ | refine ev_gt.mpr ?_ | refine ev_eqI.mpr ?_ | refine ev_neI.mpr ?_ | refine ev_lenT.mpr ?_ | refine ev_lenL.mpr ?_ | refine ev_toT.mpr ?_ | refine ev_toLT.mpr ?_ | refine ev_toL.mpr ?_ | refine ev_isN.mpr ?_ | refine ev_slT.mpr ?_ | refine ev_slLL.mpr ?_ | refine if_t ?_ | refine if_f ?_)
local macro_rules | `(tactic| fail) => `(tactic| with_reducible first | refine ev_catL.mpr ?_ | refine ev_catT.mpr ?_ | refine s_lc2.mpr ?_ | refine s_own1.mpr ?_ | refine own_at rfl ?_ | refine s_try.mpr ?_)
local macro_rules | `(tactic| fail) => `(tactic| with_reducible first | refine lx0 ?_ | refine lx1 ?_ | refine lx2 ?_ | refine lx3 ?_ | refine lx4 ?_ | refine lx5 ?_ | refine lx6 ?_ | refine lx7 ?_ | refine lx8 ?_ | refine lx9 ?_ | refine lx10 ?_ | refine lx11 ?_ | refine lx12 ?_ | refine lx13 ?_ | refine lx14 ?_ | refine lx15 ?_ | refine lx16 ?_)
theorem enum_waits (l : List Wait) : enumD (l.map dWait) = (List.range l.length).map fun (q : Nat) => D.tup [.int q, dWait (l.getD q W0)] := by
  unfold enumD
  rw [List.length_map]
  refine List.map_congr_left fun i hi => ?_
  have hi := List.mem_range.mp hi
  rw [List.getElem?_map, List.getD_eq_getElem?_getD, List.getElem?_eq_getElem hi]
  rfl
def tfBools : TF := fun l n Q _ => ∃ s ws, l = [dPlan s ws] ∧ PlanOk s ws ∧ ∀ vs : List D, (∀ v ∈ vs, Val v) → vs.length ≤ 16 → Q (.lst vs) n
theorem bl_fine (b : Bool) : Fine 3 13 (.bl b) := (fine_bl b).mono (by decide) (by decide)
theorem bools_ok : ∀ l n Q E, tfBools l n Q E → bodyTF 10 b__law_with_bools l n Q E := by
  intro l n Q E ⟨s, ws, e, ok, q⟩
  subst e
  show b__law_with_bools E ⟨fun _ m => Q .non m, Q, fun _ _ => False, fun _ _ => False⟩ [some (.d (dPlan s ws)), none, none, none, none, none, none, none, none, none] n
  have s4 := ok.1.2.1
  have w24 := ok.2.1
  unfold b__law_with_bools
  repeat' fail
  refine opt_of (x := [some (.d (dPlan s ws)), some (.d (dInts s)), some (.d (dWaits ws)), none, none, none, none, none, none, none]) rfl ?_
  repeat' fail
  refine ev_asL.mpr ?_
  repeat' fail
  unfold dInts
  rw [enum_tup]
  refine for_ind (J := fun xs e m => m = n ∧ ∃ (k : Nat) (vs : List D) (a b : Option S), k ≤ s.length ∧ xs = ((List.range s.length).drop k).map (fun (q : Nat) => D.tup [.int q, .int (s.getD q 0)]) ∧ (∀ v ∈ vs, Val v) ∧ vs.length ≤ k ∧
    e = [some (.d (dPlan s ws)), some (.d (dInts s)), some (.d (dWaits ws)), some (.own vs), a, b, none, none, none, none]) ?_ ?_ _ _ _ ⟨rfl, 0, [], none, none, Nat.zero_le _, rfl, all_0, Nat.le_refl _, rfl⟩
  · rintro e m ⟨rfl, k, vs, a, b, hk, hx, hv, hl, rfl⟩
    repeat' first
      | fail
      | with_reducible refine sl_W ?_
      | done
    rw [enum_waits, show cutG ws none (some 3) = ws.take 3 from cutG_to ws 3]
    refine for_ind (J := fun xs e m' => m' = m ∧ ∃ (k : Nat) (vs : List D) (a b c d f g : Option S), k ≤ (ws.take 3).length ∧ xs = ((List.range (ws.take 3).length).drop k).map (fun (q : Nat) => D.tup [.int q, dWait ((ws.take 3).getD q W0)]) ∧ (∀ v ∈ vs, Val v) ∧ vs.length ≤ 4 + 4 * k ∧
      e = [some (.d (dPlan s ws)), some (.d (dInts s)), some (.d (dWaits ws)), some (.own vs), a, b, c, d, f, g]) ?_ ?_ _ _ _ ⟨rfl, 0, vs, a, b, none, none, none, none, Nat.zero_le _, rfl, hv, by omega, rfl⟩
    · rintro e m' ⟨rfl, k, vs, a, b, c, d, f, g, hk, hx, hv, hl, rfl⟩
      have : (ws.take 3).length ≤ 3 := by rw [List.length_take]; omega
      refine frz_at rfl ?_
      repeat' fail
      exact q vs hv (by omega)
    · rintro x xs e m' p ⟨rfl, k, vs, a, b, c, d, f, g, hk, hx, hv, hl, rfl⟩ hp
      have hk' : k < (ws.take 3).length := by
        have z := congrArg List.length hx
        rw [List.length_cons, List.length_map, List.length_drop, List.length_range] at z
        omega
      have h3 : (ws.take 3).length ≤ 3 := by rw [List.length_take]; omega
      rw [List.drop_eq_getElem_cons (by rw [List.length_range]; exact hk'), List.map_cons, List.getElem_range] at hx
      injection hx with e1 e2
      have hw : (ws.take 3).getD k W0 ∈ ws := by
        rw [List.getD_eq_getElem?_getD, List.getElem?_eq_getElem hk']
        exact List.mem_of_mem_take (List.getElem_mem _)
      generalize (ws.take 3).getD k W0 = w at e1 hw
      subst e1 e2
      obtain ⟨o1, o2, _⟩ := ok.2.2.1 w hw
      obtain ⟨⟨p1, p2⟩, ⟨p3, p4⟩⟩ := w
      have m1 := small_of ok.1 o1
      have m2 := small_of ok.1 o2
      have f1 : Fine 4 45 (.tup [.int p1, .int p2]) := dJob_fine ok.1 o1
      have f2 : Fine 4 45 (.tup [.int p3, .int p4]) := dJob_fine ok.1 o2
      dsimp only at m1 m2
      obtain ⟨b1, b2, b3, b4⟩ := m1
      obtain ⟨b5, b6, b7, b8⟩ := m2
      dsimp only at b1 b2 b3 b4 b5 b6 b7 b8
      have g9 : ∀ {i : Int}, 0 ≤ i → i < 10 → Fine 3 13 (.int i) := fun h0 h1 => (fine_small h0 h1).mono (by decide) (by decide)
      have c0 := cut_both ws (i := (k : Int)) (by omega)
      refine opt_of (x := [some (.d (dPlan s ws)), some (.d (dInts s)), some (.d (dWaits ws)), some (.own vs), some (.d (.int k)), b, some (.d (dJob (p1, p2))), some (.d (dJob (p3, p4))), f, g]) rfl ?_
      repeat' first
        | fail
        | with_reducible refine sl_W ?_
        | done
      refine ev_some.mpr (ev_some.mpr ?_)
      -- one more value
      have one : ∀ (u : D), Fine 5 100 u → Val (.tup [dInts s, .tup ((cutG ws none (some (k : Int))).map dWait ++ [u] ++ (cutG ws (some ((k : Int) + 1)) none).map dWait)]) := fun u hu => by
        refine fine_v2 ok (all_a (all_a (cut_wts ok _ _) (all_1 hu all_0)) (cut_wts ok _ _)) ?_
        rw [List.length_append, List.length_append, List.length_map, List.length_map]
        show _ + 1 + _ ≤ _
        omega
      have cat : ∀ {u : D} {K : D → Prop}, K (.tup ((cutG ws none (some (k : Int))).map dWait ++ [u] ++ (cutG ws (some ((k : Int) + 1)) none).map dWait)) → opt (fCatT (.tup ((cutG ws none (some (k : Int))).map dWait)) (.tup [u])) fun z => opt (fCatT z (.tup ((cutG ws (some ((k : Int) + 1)) none).map dWait))) K := fun {u K} h =>
        ev_catT.mpr ⟨by rw [List.length_map]; show _ + 1 ≤ _; omega, ev_catT.mpr ⟨by rw [List.length_append, List.length_map, List.length_map]; show _ + 1 + _ ≤ _; omega, h⟩⟩
      have fin : ∀ (vs' : List D), (∀ v ∈ vs', Val v) → vs'.length ≤ vs.length + 4 → p [some (.d (dPlan s ws)), some (.d (dInts s)), some (.d (dWaits ws)), some (.own vs'), some (.d (.int k)), b, some (.d (dJob (p1, p2))), some (.d (dJob (p3, p4))), some (.d (.tup ((cutG ws none (some (k : Int))).map dWait))), some (.d (.tup ((cutG ws (some ((k : Int) + 1)) none).map dWait)))] m' :=
        fun vs' h1 h2 => hp _ _ ⟨rfl, k + 1, vs', _, _, _, _, _, _, hk', rfl, h1, by omega, rfl⟩
      have ifk : ∀ {X U : TD} {i : Int} {u : D} {p' : En → Nat → Prop} {r : DK} {o k' : En → Nat → Prop} {us : List D}, (∀ R : DK, R (.int i) m' → X [some (.d (dPlan s ws)), some (.d (dInts s)), some (.d (dWaits ws)), some (.own us), some (.d (.int k)), b, some (.d (dJob (p1, p2))), some (.d (dJob (p3, p4))), some (.d (.tup ((cutG ws none (some (k : Int))).map dWait))), some (.d (.tup ((cutG ws (some ((k : Int) + 1)) none).map dWait)))] m' R) → (∀ R : DK, R u m' → U [some (.d (dPlan s ws)), some (.d (dInts s)), some (.d (dWaits ws)), some (.own us), some (.d (.int k)), b, some (.d (dJob (p1, p2))), some (.d (dJob (p3, p4))), some (.d (.tup ((cutG ws none (some (k : Int))).map dWait))), some (.d (.tup ((cutG ws (some ((k : Int) + 1)) none).map dWait)))] m' R) → Fine 5 100 u → (∀ v ∈ us, Val v) → us.length ≤ 20 →
          (∀ us' : List D, (∀ v ∈ us', Val v) → us'.length ≤ us.length + 1 → p' [some (.d (dPlan s ws)), some (.d (dInts s)), some (.d (dWaits ws)), some (.own us'), some (.d (.int k)), b, some (.d (dJob (p1, p2))), some (.d (dJob (p3, p4))), some (.d (.tup ((cutG ws none (some (k : Int))).map dWait))), some (.d (.tup ((cutG ws (some ((k : Int) + 1)) none).map dWait)))] m') →
          dIfS (dT (d2 fLt X (dC (.int 2)))) (dApp 3 (dTup (dCons (dVar 1) (dCons (d2 fCatT (d2 fCatT (dVar 8) (dTup (dCons U dNil))) (dVar 9)) dNil)))) dNext ⟨p', r, o, k'⟩ [some (.d (dPlan s ws)), some (.d (dInts s)), some (.d (dWaits ws)), some (.own us), some (.d (.int k)), b, some (.d (dJob (p1, p2))), some (.d (dJob (p3, p4))), some (.d (.tup ((cutG ws none (some (k : Int))).map dWait))), some (.d (.tup ((cutG ws (some ((k : Int) + 1)) none).map dWait)))] m' := by
        intro X U i u p' r o k' us hX hU hu hus hlen hp'
        repeat' fail
        refine hX _ ?_
        repeat' fail
        by_cases c : i < 2
        · rw [decide_eq_true c]
          refine if_t ?_
          repeat' fail
          refine hU _ ?_
          repeat' fail
          refine ⟨by rw [List.length_map]; show _ + 1 ≤ _; omega, ?_⟩
          repeat' fail
          refine ⟨by rw [List.length_append, List.length_map, List.length_map]; show _ + 1 + _ ≤ _; omega, ?_⟩
          repeat' fail
          exact ⟨by omega, hp' _ (all_a hus (all_1 (one u hu) all_0)) (by rw [List.length_append]; exact Nat.le_refl _)⟩
        · rw [decide_eq_false c]
          refine if_f (s_next.mpr ?_)
          exact hp' us hus (by omega)
      refine s_seq.mpr (ifk (i := p1) (u := .tup [.tup [.bl (p1 == 1), .int p2], dJob (p3, p4)]) (fun R h => ?_) (fun R h => ?_) ((fine_pair ((fine_pair (bl_fine _) (g9 b3 b4)).mono (by decide) (by decide)) f2).mono (by decide) (by decide)) hv (by omega) fun v1 h1 l1 => ?_)
      · repeat' fail
        exact ev_job0 h
      · repeat' fail
        refine ev_job0 ?_
        repeat' fail
        refine ev_job1 ?_
        repeat' fail
        exact h
      refine s_seq.mpr (ifk (i := p2) (u := .tup [.tup [.int p1, .bl (p2 == 1)], dJob (p3, p4)]) (fun R h => ?_) (fun R h => ?_) ((fine_pair ((fine_pair (g9 b1 b2) (bl_fine _)).mono (by decide) (by decide)) f2).mono (by decide) (by decide)) h1 (by omega) fun v2 h2 l2 => ?_)
      · repeat' fail
        exact ev_job1 h
      · repeat' fail
        refine ev_job0 ?_
        repeat' fail
        refine ev_job1 ?_
        repeat' fail
        exact h
      refine s_seq.mpr (ifk (i := p3) (u := .tup [dJob (p1, p2), .tup [.bl (p3 == 1), .int p4]]) (fun R h => ?_) (fun R h => ?_) ((fine_pair f1 ((fine_pair (bl_fine _) (g9 b7 b8)).mono (by decide) (by decide))).mono (by decide) (by decide)) h2 (by omega) fun v3 h3 l3 => ?_)
      · repeat' fail
        exact ev_job0 h
      · repeat' fail
        refine ev_job0 ?_
        repeat' fail
        refine ev_job1 ?_
        repeat' fail
        exact h
      refine ifk (i := p4) (u := .tup [dJob (p1, p2), .tup [.int p3, .bl (p4 == 1)]]) (fun R h => ?_) (fun R h => ?_) ((fine_pair f1 ((fine_pair (g9 b5 b6) (bl_fine _)).mono (by decide) (by decide))).mono (by decide) (by decide)) h3 (by omega) fun v4 h4 l4 => fin v4 h4 (by omega)
      · repeat' fail
        exact ev_job1 h
      · repeat' fail
        refine ev_job0 ?_
        repeat' fail
        refine ev_job1 ?_
        repeat' fail
        exact h
  · rintro x xs e m p ⟨rfl, k, vs, a, b, hk, hx, hv, hl, rfl⟩ hp
    have hk' : k < s.length := by
      have z := congrArg List.length hx
      rw [List.length_cons, List.length_map, List.length_drop, List.length_range] at z
      omega
    rw [List.drop_eq_getElem_cons (by rw [List.length_range]; exact hk'), List.map_cons, List.getElem_range] at hx
    injection hx with e1 e2
    have hi := ok.1.2.2 (s.getD k 0) (by
      rw [List.getD_eq_getElem?_getD, List.getElem?_eq_getElem hk']
      exact List.getElem_mem _)
    generalize s.getD k 0 = i at e1 hi
    subst e1 e2
    refine opt_of (x := [some (.d (dPlan s ws)), some (.d (dInts s)), some (.d (dWaits ws)), some (.own vs), some (.d (.int k)), some (.d (.int i)), none, none, none, none]) rfl ?_
    have c0 := cut_both s (i := (k : Int)) (by omega)
    repeat' fail
    by_cases c : i < 2
    · rw [decide_eq_true c]
      refine if_t ?_
      repeat' first
        | fail
        | with_reducible refine sl_I ?_
        | done
      refine ⟨by rw [List.length_map]; show _ + 1 ≤ _; omega, ?_⟩
      repeat' first
        | fail
        | with_reducible refine sl_I ?_
        | done
      refine ⟨by rw [List.length_append, List.length_map, List.length_map]; show _ + 1 + _ ≤ _; omega, ?_⟩
      repeat' fail
      refine ⟨by omega, hp _ _ ⟨rfl, k + 1, _, _, _, hk', rfl, all_a hv (all_1 ?_ all_0), by rw [List.length_append]; show _ + 1 ≤ _; omega, rfl⟩⟩
      refine fine_v1 ok (all_a (all_a (cut_ints ok _ _) (all_1 ((fine_bl _).mono (by decide) (by decide)) all_0)) (cut_ints ok _ _)) ?_
      rw [List.length_append, List.length_append, List.length_map, List.length_map]
      show _ + 1 + _ ≤ _
      omega
    · rw [decide_eq_false c]
      refine if_f (s_next.mpr ?_)
      exact hp _ _ ⟨rfl, k + 1, vs, _, _, hk', rfl, hv, by omega, rfl⟩
end Ka

set_option Elab.async false
set_option linter.all false
set_option maxRecDepth 100000
set_option maxHeartbeats 4000000
namespace VD
open PySem L2
/-! ### a value that is a new list, or no list -/
def nlB : D → Bool
  | .lst _ => false
  | _ => true
def slotG : D → S
  | .lst l => .own l
  | x => .d x
theorem g_nl {pn : Pw} {K : PySem.W.Frag} {H H' : Hp} {v : V} {y : D} (h : nlB y = true) (r : Rep pn K H' v y) : RK .g pn K H H' v y := by
  unfold RK
  dsimp only
  split
  · cases h
  · exact r
theorem g_new {pn : Pw} {K : PySem.W.Frag} {H H' : Hp} {v : V} {y : D} (r : New pn K H H' v y) : RK .g pn K H H' v y := by
  unfold RK
  dsimp only
  obtain ⟨p, vs, l, h1, rfl, h3⟩ := r
  exact ⟨p, vs, l, h1, rfl, h3⟩
def dNl (t : TD) : TD := fun e n Q => t e n fun x m => nlB x = true ∧ Q x m
theorem s_nl {t : TD} {e : En} {n : Nat} {Q : DK} : dNl t e n Q ↔ t e n fun x m => nlB x = true ∧ Q x m := ⟨fun h => h, fun h => h⟩
section
variable {X : Cx} {pn : Pw} {H0 : Hp}
theorem pd_fg {e : Expr} {t : TD} (h : PD X pn H0 .f e t) : PD X pn H0 .g e t := pe_wk h fun σ H Q ⟨en, n, Qd, g, ht, q⟩ => ⟨en, n, Qd, g, ht, fun v H' y n' g' x' r' h' => q v H' y n' g' x' (g_new r') h'⟩
theorem pd_mg {e : Expr} {t : TD} (h : PD X pn H0 .m e t) : PD X pn H0 .g e (dNl t) := pe_wk h fun σ H Q ⟨en, n, Qd, g, ht, q⟩ => ⟨en, n, _, g, ht, fun v H' y n' g' x' r' h' => q v H' y n' g' x' (g_nl h'.1 r') h'.2⟩
theorem pd_gm {e : Expr} {t : TD} (h : PD X pn H0 .g e t) : PD X pn H0 .m e t := by
  refine ⟨fun pins s σ H Q I ⟨en, n, Qd, g, ht, q⟩ => ?_⟩
  refine thn (h.run pins s σ H (fun v H' => ∃ y n', Good pn X.K H0 en n' σ H' ∧ Xt pn H H' ∧ RK .g pn X.K H H' v y ∧ Qd y n') I ⟨en, n, Qd, g, ht, fun v H' y n' a b c d => ⟨y, n', a, b, c, d⟩⟩) fun u s1 ⟨v, H', I1, rv, y, n', g1, x1, rk, q1⟩ => ?_
  rcases rk.g_of with ⟨l0, e0, p, vs, l, e1, e2, e3, e4, e5⟩ | rr
  rotate_left
  · exact ⟨v, H', I1, rv, q v H' y n' g1 x1 rr q1⟩
  clear e0 rk
  obtain ⟨o, I2⟩ := Inv.freeze I1 e4
  have gr : Gr H' (upd H' p (.frz o (.lst vs))) := Gr.mut e4 (fun z => z)
  have x2 : Xt pn H (upd H' p (.frz o (.lst vs))) := fun a w ha hn => by
    have ne : a ≠ p := ne_of_none ha e3
    rw [upd_ne ne]
    exact x1 a w ha hn
  have nown : ∀ (i : Nat) m, en[i]? = some (some (.own m)) → σ[i]? ≠ some (some (.ref p)) := fun i m hi z => by
    obtain ⟨b, us, h1, h2, _⟩ := g.own i m hi
    rw [z] at h1
    cases h1
    rw [e3] at h2
    cases h2
  have h0p : H0 p = none := by
    cases w : H0 p with
    | none => rfl
    | some z =>
      have := g.stay p z w (g.pen.ne e3)
      rw [e3] at this
      cases this
  refine ⟨v, upd H' p (.frz o (.lst vs)), I2, rv, q v _ y n' ⟨g1.len, fun i z hz => ?_, fun i m hm => ?_, g1.ne, fun a w ha hn => ?_, g1.pen.xt gr fun b hb => upd_ne fun z => g.pen.ne e3 (by rw [← z]; exact hb)⟩ x2 ?_ q1⟩
  · obtain ⟨w, h1, h2⟩ := g1.dat i z hz
    exact ⟨w, h1, h2.gr gr⟩
  · obtain ⟨b, us, h1, h2, h3, h4, h5⟩ := g1.own i m hm
    have ne : b ≠ p := by
      rintro rfl
      exact nown i m hm h1
    exact ⟨b, us, h1, by rw [upd_ne ne]; exact h2, h3.gr gr, h4, h5⟩
  · have ne : a ≠ p := ne_of_none ha h0p
    rw [upd_ne ne]
    exact g1.stay a w ha hn
  · subst e1 e2
    exact .lst ⟨o, upd_same⟩ (e5.gr gr)
end
section
variable {X : Cx} {pn : Pw} {H0 : Hp} {rk : Kd} {e : Expr} {te : TD} {pos : Pos}
def dSetG (i : Nat) (t : TD) : TSD := fun F e n => t e n fun x m => F.nx (e.set i (some (slotG x))) m
theorem psd_setG (i : Nat) {x : Str} {pos' : Pos} (hN : X.N.Nodup) (h : PD X pn H0 .g e te) (hi : X.N[i]? = some x := by rfl) (hx : Loc X.env.scope x := by first | exact .inl rfl | exact .inr rfl) (hs : swapsWith e (some (.Name x pos')) pos.line X.env = pure false := by rfl) (hf : X.fn x = true ∨ X.env.scope.names.lookup x = some .local := by first | exact .inl rfl | exact .inr rfl) :
    PSD X pn H0 rk (.Assign [.Name x pos'] e pos) (dSetG i te) := ps_wk (ps_set (i := i) hN hi hx h hs hf) fun E σ H ⟨en, n, F, g, ht, q⟩ => ⟨en, n, _, g, ht, fun v H' y n' g' x' r' h' => by
  rcases r'.g_of with ⟨l, rfl, p, vs, l', rfl, e2, e3, e4, e5⟩ | rr
  · cases e2
    exact q.nx _ H' _ n' (g'.setOwn e4 e5 (good_back g e3) (g.pen.ne e3) fun j m _ hj => un_fresh g e3 j m hj) (x'.gr g.pen) h'
  · by_cases c : nlB y = true
    · have e1 : slotG y = .d y := by
        cases y with
        | lst l => cases c
        | _ => rfl
      rw [e1] at h'
      exact q.nx _ H' _ n' (g'.set rr) (x'.gr g.pen) h'
    · cases y with
      | lst l =>
        obtain ⟨p, vs, l', rfl, e2, e3, e4, e5⟩ := r'
        cases e2
        exact q.nx _ H' _ n' (g'.setOwn e4 e5 (good_back g e3) (g.pen.ne e3) fun j m _ hj => un_fresh g e3 j m hj) (x'.gr g.pen) h'
      | _ => exact absurd rfl c⟩
theorem g_back {pn : Pw} {K : PySem.W.Frag} {H0 H H' : Hp} {en : En} {n : Nat} {σ : L2.St} {v : V} {y : D} (g : Good pn K H0 en n σ H) (r : RK .g pn K H H' v y) : RK .g pn K H0 H' v y := by
  unfold RK at r ⊢
  dsimp only at r ⊢
  split at r
  · obtain ⟨p, vs, l, e1, e2, e3, e4, e5⟩ := r
    exact ⟨p, vs, l, e1, e2, good_back g e3, e4, e5⟩
  · exact r
theorem psd_retG (h : PD X pn H0 .g e te) : PSD X pn H0 .g (.Return (some e) pos) (dRet te) := ps_wk (ps_ret h) fun E σ H ⟨en, n, F, g, ht, q⟩ => ⟨en, n, _, g, ht, fun v H' y n' g' x' r' h' => q.rt v σ H' y n' en g' (g_back g r') h'⟩
def retG (i : Nat) : TSD := fun F e n => match e[i]? with
  | some (some (.own l)) => F.rt (.lst l) n
  | some (some (.d y)) => nlB y = true ∧ F.rt y n
  | _ => False
def dRetIG (c : TTD) (i : Nat) (t : TD) : TSD := fun F e n => c e n fun b m => if b = true then retG i F e m else t e m F.rt
/-- return x if c else e -/
theorem psd_retIG (i : Nat) {x : Str} {p pos2 : Pos} {c : Expr} {tc : TTD} (hc : PDT X pn H0 c tc) (h : PD X pn H0 .g e te) (hN : X.N[i]? = some x := by rfl) (hv : Vis X.env.scope x := by first | exact Or.inl rfl | exact Or.inr (Or.inl rfl) | exact Or.inr (Or.inr rfl)) (hd : (x == ("__debug__" : Str)) = false := by decide)
    (hcd : (x == ("__classdict__" : Str)) = false := by decide) : PSD X pn H0 .g (.Return (some (.IfExp c (.Name x p) e pos2)) pos) (dRetIG tc i te) := ps_wk (ps_ret (pe_ifExp hc (pe_var hN hv hd hcd) h)) fun E σ H ⟨en, n, F, g, ht, q⟩ => ⟨en, n, _, g, ht, fun d H' n' g' x' h' => by
  cases d with
  | true =>
    rw [if_pos rfl] at h' ⊢
    unfold retG at h'
    split at h'
    · rename_i l hl
      obtain ⟨a, vs, h1, h2, h3, h4, h5⟩ := g'.own i l hl
      exact ⟨.ref a, h1, q.rt _ σ H' _ n' en g' (g_new ⟨a, vs, l, rfl, rfl, h4, h2, h3⟩) h'⟩
    · rename_i y hy
      obtain ⟨v, h1, h2⟩ := g'.dat i y hy
      exact ⟨v, h1, q.rt _ σ H' _ n' en g' (g_nl h'.1 h2) h'.2⟩
    · exact h'.elim
  | false =>
    rw [if_neg Bool.false_ne_true] at h' ⊢
    exact ⟨en, n', _, g', h', fun w H2 z m g2 x2 r2 q2 => q.rt w σ H2 z m en g2 (g_back g' r2) q2⟩⟩
end
section
variable {P : Program} {w : World} {K : PySem.W.Frag} {mg : Str → Option Value} {base : Heap} {CX : CXT} {k : Nat} {f : Addr} {fd : FuncData} {x ql : Str} {st : Stmt} {N ps : List Str} {pn : Pw} {rk : Kd}
theorem ok_g (F : Fun K x ql st f fd) (S : FnScope N ps (defScope st)) (t : EK → TSD)
    (hb : ∀ (cdv : Value) (A : Around) (outer : List Env) (s : Shared) (H : Hp) (E : XK) (Ed : EK), Room k (cxOf CX P w K mg base N ql (defScope st) f cdv A outer s H E).A → (cxOf CX P w K mg base N ql (defScope st) f cdv A outer s H E).A.guards = some [] → ELead pn K H Ed E →
      PSDs (cxOf CX P w K mg base N ql (defScope st) f cdv A outer s H E) pn H .g (defBody st) (t Ed)) :
    FnG P w K mg base CX (k + 1) f fd ps (spD ps.length pn K .g (bodyTF N.length t)) := by
  have hpl : ps.length ≤ N.length := by have := congrArg List.length S.pre; rw [List.length_take] at this; omega
  refine Fun.okG F S (spD_len rfl) fun cdv A outer s H vs Q E hr hg h => ?_
  obtain ⟨l, n, Qd, Ed, r, p, hl, ht, hq, he⟩ := h
  refine ⟨_, hb cdv A outer s H E Ed hr hg he, startE N.length l, n, _, good_start r p (by rw [hl]; exact hpl), ht, ?_⟩
  exact ⟨fun σ' H' e' n' g' _ q' => hq .non H' .non n' g'.stay g'.pen (g_nl rfl .non) q', fun v σ' H' y n' e' g' r' q' => hq v H' y n' g'.stay g'.pen r' q', fun _ _ _ _ _ _ z => z.elim, fun _ _ _ _ _ _ z => z.elim⟩
end
end VD

set_option Elab.async false
set_option linter.all false
set_option maxRecDepth 100000
set_option maxHeartbeats 4000000
namespace VD
open PySem L2
section
variable {p : En → Nat → Prop} {r : DK} {o k : En → Nat → Prop} {i n : Nat} {t : TD} {c : TTD} {e : En} {l : List D} {y : D}
theorem s_setG : dSetG i t ⟨p, r, o, k⟩ e n ↔ t e n fun x m => p (e.set i (some (slotG x))) m := ⟨fun h => h, fun h => h⟩
theorem s_retIG : dRetIG c i t ⟨p, r, o, k⟩ e n ↔ c e n fun b m => if b = true then retG i ⟨p, r, o, k⟩ e m else t e m r := ⟨fun h => h, fun h => h⟩
theorem retG_own (h : e[i]? = some (some (.own l))) (q : r (.lst l) n) : retG i ⟨p, r, o, k⟩ e n := by
  unfold retG
  rw [h]
  exact q
theorem retG_d (h : e[i]? = some (some (.d y))) (hn : nlB y = true) (q : r y n) : retG i ⟨p, r, o, k⟩ e n := by
  unfold retG
  rw [h]
  exact ⟨hn, q⟩
end
end VD

set_option Elab.async false
set_option linter.all false
set_option maxRecDepth 100000
set_option maxHeartbeats 4000000
namespace K02L
open PySem L2 VD VS PenM Pl Lb M04 Ka
local macro_rules | `(tactic| fail) => `(tactic| with_reducible first | refine s_next.mpr ?_ | refine s_seq.mpr ?_ | refine s_ifS.mpr ?_ | refine s_if.mpr ?_ | refine s_ret.mpr ?_ | refine s_T.mpr ?_ | refine s_Tr.mpr ?_ | refine s_notT.mpr ?_ | refine s_andT.mpr ?_ | refine s_orT.mpr ?_ | refine s_and.mpr ?_ | refine s_or.mpr ?_ | refine s_not.mpr ?_ | refine s_set.mpr ?_ | refine s_setO.mpr ?_ | refine s_2.mpr ?_ | refine s_1.mpr ?_ | refine s_C.mpr ?_ | refine var_at rfl ?_ | refine own_at rfl ?_ | refine s_cons.mpr ?_ | refine s_nil.mpr ?_ | refine s_call.mpr ?_ | refine s_callE.mpr ?_ | refine arg1 ?_ | refine arg2 ?_ | refine arg3 ?_ | refine arg4 ?_ | refine s_tup.mpr ?_ | refine s_lst.mpr ?_ | refine s_mt.mpr ?_ | refine s_ch.mpr ?_ | refine s_asg.mpr ?_ | refine s_par.mpr ?_ | refine s_drop.mpr ?_ | refine s_raise.mpr ?_ | refine s_iL.mpr ?_ | refine s_iT.mpr ?_ | refine s_iEL.mpr ?_ | refine s_iET.mpr ?_ | refine s_iR1.mpr ?_ | refine s_iR2.mpr ?_ | refine s_iZp.mpr ?_ | refine s_lc.mpr ?_ | refine s_for.mpr ?_ | refine s_gen.mpr ?_ | refine s_sl.mpr ?_ | refine s_no.mpr ?_ | refine s_pt.mpr ?_ | refine s_yes.mpr ?_ | refine app_at rfl ?_ | refine ext_at rfl ?_ | refine frz_at rfl ?_ | refine ev_asB.mpr ?_ | refine ev_truB ?_ | refine ev_asL.mpr ?_ | refine ev_asTp.mpr ?_ | refine ev_asI.mpr ?_ | refine ev_add.mpr ?_ | refine ev_sub.mpr ?_ | refine ev_neg.mpr ?_ | refine ev_le.mpr ?_ | refine ev_lt.mpr ?_ | refine ev_ge.mpr ?_ | refine ev_gt.mpr ?_ | refine ev_eqI.mpr ?_ | refine ev_neI.mpr ?_ | refine ev_lenT.mpr ?_ | refine ev_lenL.mpr ?_ | refine ev_toT.mpr ?_ | refine ev_toLT.mpr ?_ | refine ev_toL.mpr ?_ | refine ev_isN.mpr ?_ | refine ev_slT.mpr ?_ | refine ev_slLL.mpr ?_ | refine if_t ?_ | refine if_f ?_)
local macro_rules | `(tactic| fail) => `(tactic| with_reducible first | refine ev_catL.mpr ?_ | refine ev_catT.mpr ?_ | refine s_lc2.mpr ?_ | refine s_own1.mpr ?_ | refine own_at rfl ?_ | refine s_try.mpr ?_)
local macro_rules | `(tactic| fail) => `(tactic| with_reducible first | refine lx0 ?_ | refine lx1 ?_ | refine lx2 ?_ | refine lx3 ?_ | refine lx4 ?_ | refine lx5 ?_ | refine lx6 ?_ | refine lx7 ?_ | refine lx8 ?_ | refine lx9 ?_ | refine lx10 ?_ | refine lx11 ?_ | refine lx12 ?_ | refine lx13 ?_ | refine lx14 ?_ | refine lx15 ?_ | refine lx16 ?_)
local macro_rules | `(tactic| fail) => `(tactic| with_reducible first | refine s_setG.mpr ?_ | refine s_retIG.mpr ?_ | refine s_nl.mpr ?_)
def b__law_told (K : PySem.W.Frag) (C_PlanError : Addr) (t_jobs : TF) (t_is_job : TF) (t__law_refusal : TF) : EK → TSD := fun E => (dSeq (dAsg (gTp (gCn (gNm 3) (gCn (gNm 4) gNl))) (dTup (dCons (dC .non) (dCons (dC .non) dNil)))) (dSeq (dSet 5 (d1 fRepr (dTup (dCons (dVar 1) (dCons (dVar 2) dNil))))) (dSeq (dTry K (.ref C_PlanError) 6 3 fun EE => (dSetG 4 (dIf (dT (d2 fEq (dVar 0) (dC (.int 0)))) (dCallE 1 t_jobs EE (dCons (dVar 1) dNil)) (dNl (dCallE 2 t_is_job EE (dCons (dVar 1) (dCons (dVar 2) dNil))))))) (dSeq (dIfS (dT (d2 fNe (d1 fRepr (dTup (dCons (dVar 1) (dCons (dVar 2) dNil)))) (dVar 5))) (dRet (dNl (dC (.str "changed")))) dNext) (dRetIG (dT (d2 fIsN (dVar 3) (dC .non))) 4 (dNl (dCall 1 t__law_refusal E (dCons (dVar 3) dNil))))))))
def b0_law (t__law_open : TF) : TSD := dSetO 1 (dCall 1 t__law_open E0d (dCons (dVar 0) dNil))
def b1_law (t__law_one : TF) (t__law_anew : TF) (t__law_plan : TF) (t__law_any_plan : TF) (t__law_jobs : TF) (t__law_told : TF) (t__law_bad_plan : TF) (E : EK) : TSD := (dSeq (dFor (iR1 (dC (.int 5))) (gNm 2) (dSeq (dSet 3 (dCall 2 t__law_one E (dCons (dCall 1 t__law_anew E (dCons (dVar 1) dNil)) (dCons (dLst (dCons (dCall 3 t__law_plan E (dCons (dVar 1) (dCons (dC (.int 6)) (dCons (dC (.int 12)) dNil)))) (dCons (dCall 3 t__law_any_plan E (dCons (dVar 1) (dCons (dC (.int 4)) (dCons (dC (.int 6)) dNil)))) dNil))) dNil)))) (dSeq (dPar 4 5 false false (d2 fIxT (dVar 3) (dC (.int 0))) (dCall 1 t__law_jobs E (dCons (d2 fIxT (dVar 3) (dC (.int 0))) dNil))) (dSeq (dSetG 6 (dCall 3 t__law_told E (dCons (dC (.int 0)) (dCons (dVar 3) (dCons (dC .non) dNil))))) (dSeq (dIfS (dT (d2 fNe (d1 fRepr (dOwn 6)) (d1 fRepr (dVar 5)))) (dRet (dC (.bl false))) dNext) (dSeq (dApp 6 (dTup (dCons (dC (.int 0)) (dCons (dC (.int 0)) dNil)))) (dSeq (dIfS (dT (d2 fNe (d1 fRepr (dCall 3 t__law_told E (dCons (dC (.int 0)) (dCons (dVar 3) (dCons (dC .non) dNil))))) (d1 fRepr (dVar 5)))) (dRet (dC (.bl false))) dNext) (dSeq (dFor (iR2 (d1 fNeg (dC (.int 1))) (dC (.int 6))) (gNm 7) (dFor (iR2 (d1 fNeg (dC (.int 1))) (dC (.int 8))) (gNm 8) (dIfS (dT (d2 fNe (d1 fRepr (dCall 3 t__law_told E (dCons (dC (.int 1)) (dCons (dVar 3) (dCons (dTup (dCons (dVar 7) (dCons (dVar 8) dNil))) dNil))))) (d1 fRepr (d2 fIn (dTup (dCons (dVar 7) (dCons (dVar 8) dNil))) (dVar 5))))) (dRet (dC (.bl false))) dNext))) (dSeq (dSet 9 (dLst (dCons (dC .non) (dCons (dC (.int 0)) (dCons (dTup dNil) (dCons (dTup (dCons (dC (.int 0)) dNil)) (dCons (dTup (dCons (dC (.int 0)) (dCons (dC (.int 0)) (dCons (dC (.int 0)) dNil)))) (dCons (dLst (dCons (dC (.int 0)) (dCons (dC (.int 0)) dNil))) (dCons (dTup (dCons (dC (.bl true)) (dCons (dC (.int 0)) dNil))) (dCons (dTup (dCons (dC (.int 0)) (dCons (dC (.bl false)) dNil))) (dCons (dTup (dCons (dC (.str "0")) (dCons (dC (.int 0)) dNil))) (dCons (dTup (dCons (dC (.int 0)) (dCons (dC .non) dNil))) (dCons (dTup (dCons (dTup (dCons (dC (.int 0)) (dCons (dC (.int 0)) dNil))) dNil)) dNil))))))))))))) (dSeq (dFor (iL (d2 fCatL (dVar 9) (dLst (dCons (dC (.str "(0, 0)")) (dCons (dTup (dCons (dC (.int 0)) (dCons (d2 fPow (dC (.int 10)) (dC (.int 20))) dNil))) (dCons (dTup (dCons (d2 fPow (dC (.int 10)) (dC (.int 20))) (dCons (dC (.int 0)) dNil))) (dCons (dTup (dCons (dLst (dCons (dC (.int 0)) dNil)) (dCons (dC (.int 0)) dNil))) dNil))))))) (gNm 10) (dIfS (dT (d2 fNe (d1 fRepr (dCall 3 t__law_told E (dCons (dC (.int 1)) (dCons (dVar 3) (dCons (dVar 10) dNil))))) (dC (.str "False")))) (dRet (dC (.bl false))) dNext)) (dSeq (dSet 11 (dCall 2 t__law_bad_plan E (dCons (dVar 1) (dCons (dVar 3) dNil)))) (dSeq (dIfS (dT (d2 fNe (dLst (dCons (dCall 3 t__law_told E (dCons (dC (.int 0)) (dCons (dVar 11) (dCons (dC .non) dNil)))) (dCons (dCall 3 t__law_told E (dCons (dC (.int 1)) (dCons (dVar 11) (dCons (dTup (dCons (dC (.int 0)) (dCons (dC (.int 0)) dNil))) dNil)))) (dCons (dCall 3 t__law_told E (dCons (dC (.int 1)) (dCons (dVar 11) (dCons (dC .non) dNil)))) dNil)))) (d2 fRepL (dLst (dCons (dC (.str "plan")) dNil)) (dC (.int 3))))) (dRet (dC (.bl false))) dNext) (dSeq (dSet 12 (d2 fCatL (dVar 5) (dLst (dCons (dTup (dCons (d1 fLen (dVar 4)) (dCons (dC (.int 0)) dNil))) (dCons (dTup (dCons (d1 fLen (dVar 4)) (dCons (dC (.int 1)) dNil))) dNil))))) (dIfS (dAndT (dT (d2 fLt (d1 fLen (dVar 4)) (dC (.int 4)))) (dT (d2 fNe (dCall 3 t__law_told E (dCons (dC (.int 0)) (dCons (dTup (dCons (d2 fCatT (dVar 4) (dTup (dCons (dC (.int 2)) dNil))) (dCons (dTup dNil) dNil))) (dCons (dC .non) dNil)))) (dVar 12)))) (dRet (dC (.bl false))) dNext)))))))))))))) (dRet (dC (.bl true))))
/-! ### what is told of a plan and a value -/
def tfTold2 : TF := fun l n Q _ => ∃ (so : Int) (x v : D), l = [.int so, x, v] ∧ Fine 60 1000000 (.tup [x, v]) ∧ (¬ IsPlan x → Q (.str "plan") n) ∧
  ((so = 0 ∧ ∀ s ws, x = dPlan s ws → PlanOk s ws → Q (.lst ((jobsL s).map dJob)) n) ∨ (so = 1 ∧ ∀ s ws, x = dPlan s ws → PlanOk s ws → Q (.bl (hasJobD s v)) n))
theorem told2_ok {K : PySem.W.Frag} {cls : Nat → Addr} (P : ErrP K cls) : ∀ l n Q E, tfTold2 l n Q E → bodyTF 7 (b__law_told K (cls 22) (tfJobsP (cls 0)) (tfIsJob (cls 0)) (tfRefusal cls)) l n Q E := by
  intro l n Q E ⟨so, x, v, e, hf, hn, h⟩
  subst e
  show b__law_told K (cls 22) (tfJobsP (cls 0)) (tfIsJob (cls 0)) (tfRefusal cls) E ⟨fun _ m => Q .non m, Q, fun _ _ => False, fun _ _ => False⟩ [some (.d (.int so)), some (.d x), some (.d v), none, none, none, none] n
  unfold b__law_told
  have px : Pln x := fine_pln (hf.tup.2 x List.mem_cons_self)
  have pv : Pln v := fine_pln (hf.tup.2 v (List.mem_cons_of_mem _ List.mem_cons_self))
  obtain ⟨r, er, _, rok⟩ := hf.repr (by decide) (by decide)
  repeat' fail
  refine opt_of (x := [some (.d (.int so)), some (.d x), some (.d v), some (.d .non), some (.d .non), none, none]) rfl ?_
  repeat' fail
  refine opt_of er ?_
  repeat' fail
  refine ⟨no_own rfl, ?_⟩
  have head : ∀ (e3 : D) (e4 e6 : Option S) (T : TSD), T ⟨fun _ m => Q .non m, Q, fun _ _ => False, fun _ _ => False⟩ [some (.d (.int so)), some (.d x), some (.d v), some (.d e3), e4, some (.d (.str r)), e6] n →
      (dSeq (dIfS (dT (d2 fNe (d1 fRepr (dTup (dCons (dVar 1) (dCons (dVar 2) dNil)))) (dVar 5))) (dRet (dNl (dC (.str "changed")))) dNext) T) ⟨fun _ m => Q .non m, Q, fun _ _ => False, fun _ _ => False⟩ [some (.d (.int so)), some (.d x), some (.d v), some (.d e3), e4, some (.d (.str r)), e6] n := by
    intro e3 e4 e6 T h
    repeat' fail
    refine opt_of er ?_
    repeat' fail
    refine opt_of (str_ne rok) ?_
    repeat' fail
    exact h
  have tail1 : ∀ (z : D) (e6 : Option S), Q z n → (dRetIG (dT (d2 fIsN (dVar 3) (dC .non))) 4 (dNl (dCall 1 (tfRefusal cls) E (dCons (dVar 3) dNil)))) ⟨fun _ m => Q .non m, Q, fun _ _ => False, fun _ _ => False⟩ [some (.d (.int so)), some (.d x), some (.d v), some (.d .non), some (slotG z), some (.d (.str r)), e6] n := by
    intro z e6 q
    repeat' fail
    refine if_t ?_
    by_cases c : nlB z = true
    · exact retG_d (show _ = some (some (S.d z)) by
        show some (some (slotG z)) = _
        cases z with
        | lst l => cases c
        | _ => rfl) c q
    · cases z with
      | lst l => exact retG_own rfl q
      | _ => exact absurd rfl c
  have tail2 : ∀ (e4 e6 : Option S), Q (.str "plan") n → (dRetIG (dT (d2 fIsN (dVar 3) (dC .non))) 4 (dNl (dCall 1 (tfRefusal cls) E (dCons (dVar 3) dNil)))) ⟨fun _ m => Q .non m, Q, fun _ _ => False, fun _ _ => False⟩ [some (.d (.int so)), some (.d x), some (.d v), some (.d (.exc (cls 0) "" [])), e4, some (.d (.str r)), e6] n := by
    intro e4 e6 q
    repeat' fail
    refine if_f ?_
    repeat' fail
    exact ⟨0, "", [], _, rfl, .inl ⟨by omega, rfl, rfl, rfl⟩, rfl, q⟩
  rcases h with ⟨rfl, h1⟩ | ⟨rfl, h1⟩
  · repeat' fail
    refine if_t ?_
    repeat' fail
    exact ⟨x, rfl, px, fun s ws e ok => head _ _ _ _ (tail1 _ _ (h1 s ws e ok)), fun np => ⟨P.pe 0 (by omega), head _ _ _ _ (tail2 _ _ (hn np))⟩⟩
  · repeat' fail
    refine if_f ?_
    repeat' fail
    exact ⟨x, v, rfl, px, pv, fun s ws e ok => ⟨rfl, head _ _ _ _ (tail1 _ _ (h1 s ws e ok))⟩, fun np => ⟨P.pe 0 (by omega), head _ _ _ _ (tail2 _ _ (hn np))⟩⟩
end K02L

set_option Elab.async false
set_option linter.all false
set_option maxRecDepth 100000
set_option maxHeartbeats 4000000
namespace K02L
open PySem L2 VD VS PenM Pl Lb M04 Ka
local macro_rules | `(tactic| fail) => `(tactic| with_reducible first | refine s_next.mpr ?_ | refine s_seq.mpr ?_ | refine s_ifS.mpr ?_ | refine s_if.mpr ?_ | refine s_ret.mpr ?_ | refine s_T.mpr ?_ | refine s_Tr.mpr ?_ | refine s_notT.mpr ?_ | refine s_andT.mpr ?_ | refine s_orT.mpr ?_ | refine s_and.mpr ?_ | refine s_or.mpr ?_ | refine s_not.mpr ?_ | refine s_set.mpr ?_ | refine s_setO.mpr ?_ | refine s_2.mpr ?_ | refine s_1.mpr ?_ | refine s_C.mpr ?_ | refine var_at rfl ?_ | refine own_at rfl ?_ | refine s_cons.mpr ?_ | refine s_nil.mpr ?_ | refine s_call.mpr ?_ | refine s_callE.mpr ?_ | refine arg1 ?_ | refine arg2 ?_ | refine arg3 ?_ | refine arg4 ?_ | refine s_tup.mpr ?_ | refine s_lst.mpr ?_ | refine s_mt.mpr ?_ | refine s_ch.mpr ?_ | refine s_asg.mpr ?_ | refine s_par.mpr ?_ | refine s_drop.mpr ?_ | refine s_raise.mpr ?_ | refine s_iL.mpr ?_ | refine s_iT.mpr ?_ | refine s_iEL.mpr ?_ | refine s_iET.mpr ?_ | refine s_iR1.mpr ?_ | refine s_iR2.mpr ?_ | refine s_iZp.mpr ?_ | refine s_lc.mpr ?_ | refine s_for.mpr ?_ | refine s_gen.mpr ?_ | refine s_sl.mpr ?_ | refine s_no.mpr ?_ | refine s_pt.mpr ?_ | refine s_yes.mpr ?_ | refine app_at rfl ?_ | refine ext_at rfl ?_ | refine frz_at rfl ?_ | refine ev_asB.mpr ?_ | refine ev_truB ?_ | refine ev_asL.mpr ?_ | refine ev_asTp.mpr ?_ | refine ev_asI.mpr ?_ | refine ev_add.mpr ?_ | refine ev_sub.mpr ?_ | refine ev_neg.mpr ?_ | refine ev_le.mpr ?_ | refine ev_lt.mpr ?_ | refine ev_ge.mpr ?_ | refine ev_gt.mpr ?_ | refine ev_eqI.mpr ?_ | refine ev_neI.mpr ?_ | refine ev_lenT.mpr ?_ | refine ev_lenL.mpr ?_ | refine ev_toT.mpr ?_ | refine ev_toLT.mpr ?_ | refine ev_toL.mpr ?_ | refine ev_isN.mpr ?_ | refine ev_slT.mpr ?_ | refine ev_slLL.mpr ?_ | refine if_t ?_ | refine if_f ?_)
local macro_rules | `(tactic| fail) => `(tactic| with_reducible first | refine ev_catL.mpr ?_ | refine ev_catT.mpr ?_ | refine s_lc2.mpr ?_ | refine s_own1.mpr ?_ | refine own_at rfl ?_ | refine s_try.mpr ?_)
local macro_rules | `(tactic| fail) => `(tactic| with_reducible first | refine lx0 ?_ | refine lx1 ?_ | refine lx2 ?_ | refine lx3 ?_ | refine lx4 ?_ | refine lx5 ?_ | refine lx6 ?_ | refine lx7 ?_ | refine lx8 ?_ | refine lx9 ?_ | refine lx10 ?_ | refine lx11 ?_ | refine lx12 ?_ | refine lx13 ?_ | refine lx14 ?_ | refine lx15 ?_ | refine lx16 ?_)
local macro_rules | `(tactic| fail) => `(tactic| with_reducible first | refine s_setG.mpr ?_ | refine s_retIG.mpr ?_ | refine s_nl.mpr ?_)
/-! ### the law of jobs -/
abbrev b_law : TSD := b1_law tfOne tfAnew Ka.tfPlan tfAnyPlan tfJobs tfTold2 tfBadA E0d
theorem fine_jobsL {s : List Int} (ok : SizesOk s) : Fine 2 292 (.lst ((jobsL s).map dJob)) := by
  refine (fine_lst (d := 1) (L := 10) (m := 24) (fun y hy => ?_) ?_).mono (by decide) (by decide)
  · obtain ⟨j, hj, rfl⟩ := List.mem_map.mp hy
    exact fine_job (small_of ok (mem_jobsL.mp hj))
  · rw [List.length_map]
    have := jobs_len ok.2.1 ok.2.2 s.length (Nat.le_refl _)
    have := ok.2.1
    unfold jobsL
    omega
theorem len_jobsL {s : List Int} (ok : SizesOk s) : (jobsL s).length ≤ 24 := by
  have := jobs_len ok.2.1 ok.2.2 s.length (Nat.le_refl _)
  have := ok.2.1
  unfold jobsL
  omega
theorem in_jobs (j : Job) (js : List Job) : fIn (dJob j) (.lst (js.map dJob)) = some (.bl (decide (j ∈ js))) := by
  unfold fIn inP inL
  dsimp only
  rw [toPs_jobs, toP_job]
  dsimp only
  rw [shp_job, shp_jobs]
  show some (D.bl _) = some (D.bl _)
  congr 2
  rw [List.any_map, Bool.eq_iff_iff, List.any_eq_true, decide_eq_true_eq]
  constructor
  · rintro ⟨v, hv, h⟩
    have h : PyData.eqv (pJob v) (pJob j) = true := h
    rw [eqv_job, decide_eq_true_eq] at h
    subst h
    exact hv
  · intro h
    refine ⟨j, h, ?_⟩
    show PyData.eqv (pJob j) (pJob j) = true
    rw [eqv_job, decide_eq_true_eq]
theorem has_in (s : List Int) (j : Job) : hasJobD s (dJob j) = decide (j ∈ jobsL s) := by
  rw [Bool.eq_iff_iff, hasJobD_iff, decide_eq_true_eq, mem_jobsL]
  constructor
  · rintro ⟨k, e, h⟩
    rw [dJob_inj e]
    exact h
  · exact fun h => ⟨j, rfl, h⟩
def strangeL : List D := [.non, .int 0, .tup [], .tup [.int 0], .tup [.int 0, .int 0, .int 0], .lst [.int 0, .int 0], .tup [.bl true, .int 0], .tup [.int 0, .bl false], .tup [.str "0", .int 0], .tup [.int 0, .non], .tup [.tup [.int 0, .int 0]], .str "(0, 0)",
  .tup [.int 0, .int (10 ^ (20 : Int).toNat)], .tup [.int (10 ^ (20 : Int).toNat), .int 0], .tup [.lst [.int 0], .int 0]]
theorem strange_fine : ∀ y ∈ strangeL, Fine 8 60 y := fun y hy => fineB_ok (List.all_eq_true.mp (show (strangeL.all (fineB 8 60)) = true by kernel_rfl) y hy)
theorem strange_no {s : List Int} (ok : SizesOk s) : ∀ y ∈ strangeL, hasJobD s y = false := by
  have l4 := ok.2.1
  have big : ∀ a b : Int, ¬ jobOf s (a, b) → hasJobD s (.tup [.int a, .int b]) = false := fun a b h => by
    rw [← Bool.not_eq_true]
    intro z
    obtain ⟨j, e, hj⟩ := hasJobD_iff.mp z
    have := dJob_inj (show dJob (a, b) = dJob j from e)
    rw [← this] at hj
    exact h hj
  unfold strangeL
  have no : ∀ x y : D, isIntD y = false → hasJobD s (.tup [x, y]) = false := fun x y h => by
    cases x with
    | int i =>
      cases y with
      | int j => cases h
      | _ => show (_ && false) = false; rw [Bool.and_false]
    | _ => rfl
  refine all_1 rfl (all_1 rfl (all_1 rfl (all_1 rfl (all_1 rfl (all_1 rfl (all_1 rfl (all_1 (no _ _ rfl) (all_1 rfl (all_1 (no _ _ rfl) (all_1 rfl (all_1 rfl (all_1 (big _ _ ?_) (all_1 (big _ _ ?_) (all_1 rfl all_0))))))))))))))
  · rintro ⟨h1, h2, h3, h4⟩
    have hm : s.getD (0 : Int).toNat 0 ∈ s := by
      rw [List.getD_eq_getElem?_getD, List.getElem?_eq_getElem (by show 0 < s.length; have := ok.1; omega)]
      exact List.getElem_mem _
    have := (ok.2.2 _ hm).2
    have h4 : (100000000000000000000 : Int) < s.getD (0 : Int).toNat 0 := h4
    omega
  · rintro ⟨h1, h2, h3, h4⟩
    have h2 : (100000000000000000000 : Int) < s.length := h2
    omega
theorem jobs_more {s : List Int} : jobsL (s ++ [2]) = jobsL s ++ [((s.length : Int), 0), ((s.length : Int), 1)] := by
  unfold jobsL
  rw [List.length_append, List.length_singleton, List.range_succ, List.flatMap_append, List.flatMap_singleton]
  have e1 : (s ++ [2]).getD s.length 0 = 2 := by
    rw [List.getD_eq_getElem?_getD, List.getElem?_append_right (Nat.le_refl _), Nat.sub_self]
    rfl
  have e2 : ∀ k, k ≤ s.length → ((List.range k).flatMap fun q => jobsQ q ((s ++ [2]).getD q 0)) = (List.range k).flatMap fun q => jobsQ q (s.getD q 0) := by
    intro k
    induction k with
    | zero => exact fun _ => rfl
    | succ k ih =>
      intro hk
      rw [List.range_succ, List.flatMap_append, List.flatMap_append, ih (by omega), List.flatMap_singleton, List.flatMap_singleton, List.getD_eq_getElem?_getD, List.getElem?_append_left (by omega), List.getD_eq_getElem?_getD]
  rw [e2 _ (Nat.le_refl _), e1]
  rfl
theorem mem_rng {a : Int} {k : Nat} : ∀ z ∈ rngD a k, ∃ i : Int, z = .int i ∧ a ≤ i ∧ i < a + k := fun z hz => by
  unfold rngD at hz
  obtain ⟨i, hi, rfl⟩ := List.mem_map.mp hz
  have := List.mem_range.mp hi
  exact ⟨_, rfl, by omega, by omega⟩
theorem f2 {d L : Nat} {x y : D} (hx : Fine d L x) (hy : Fine d L y) (hd : d + 1 ≤ 60) (hL : 2 * (L + 2) + 4 ≤ 1000000) : Fine 60 1000000 (.tup [x, y]) := (fine_pair hx hy).mono hd hL
theorem law_ok : ∀ ns : List Int, ns.length ≤ 63 → (∀ z ∈ ns, Builtin.Int.intBits z ≤ 1048576) → b0_law tfOpen (penThen 1 fun _ => b_law) (startE 13 [.ro (ns.map .int)]) 0 := by
  intro ns h63 _
  unfold penThen b0_law
  refine s_setO.mpr (s_call.mpr (s_cons.mpr (var_at rfl (s_nil.mpr ⟨rfl, ns, rfl, h63, fun cells => ?_⟩))))
  refine ⟨cells, 0, 0, rfl, by omega, by omega, by omega, ?_⟩
  unfold b_law b1_law
  show dSeq _ _ _ [some (.d (.ro (ns.map .int))), some (.d .pen), none, none, none, none, none, none, none, none, none, none, none] 0
  refine s_seq.mpr (s_for.mpr (s_iR1.mpr (s_C.mpr (ev_asI.mpr ⟨by omega, ?_⟩))))
  refine for_ind (J := fun xs e n => n + 150 * xs.length ≤ 750 ∧ ∃ a2 a3 a4 a5 a6 a7 a8 a9 a10 a11 a12, e = [some (.d (.ro (ns.map .int))), some (.d .pen), a2, a3, a4, a5, a6, a7, a8, a9, a10, a11, a12]) ?_ ?_ _ _ _ ⟨by decide, _, _, _, _, _, _, _, _, _, _, _, rfl⟩
  · intro e n _
    exact s_ret.mpr (s_C.mpr rfl)
  rintro x xs e n q ⟨hn, a2, a3, a4, a5, a6, a7, a8, a9, a10, a11, a12, he⟩ hq
  subst he
  refine opt_of (x := [some (.d (.ro (ns.map .int))), some (.d .pen), some (.d x), a3, a4, a5, a6, a7, a8, a9, a10, a11, a12]) rfl ?_
  rw [List.length_cons] at hn
  repeat' fail
  refine ⟨rfl, ?_⟩
  repeat' fail
  refine ⟨6, 12, rfl, by omega, by omega, by omega, by omega, by omega, fun s1 ws1 n1 ok1 c1 c2 => ?_⟩
  repeat' fail
  refine ⟨4, 6, rfl, by omega, by omega, by omega, by omega, by omega, fun s2 ws2 n2 ok2 c3 c4 => ?_⟩
  repeat' fail
  refine ⟨_, rfl, (fun z => by cases z), of_decide_eq_true rfl, by omega, fun px hpx n3 c5 c6 => ?_⟩
  obtain ⟨s, ws, rfl, ok⟩ : ∃ s ws, px = dPlan s ws ∧ PlanOk s ws := by
    revert px
    exact all_1 ⟨_, _, rfl, ok1⟩ (all_1 ⟨_, _, rfl, ok2⟩ all_0)
  show dSeq _ _ _ [some (.d (.ro (ns.map .int))), some (.d .pen), some (.d x), some (.d (dPlan s ws)), a4, a5, a6, a7, a8, a9, a10, a11, a12] n3
  have sok := ok.1
  have fp : Fine 8 5000 (dPlan s ws) := (fine_ok ok).mono (by decide) (by decide)
  have fj := fine_jobsL sok
  have lj := len_jobsL sok
  repeat' first
    | fail
    | with_reducible refine ev_pl0 ?_
    | done
  refine ⟨s, rfl, sok.2.1, sok.2.2, ?_⟩
  refine ev_some.mpr (ev_some.mpr ?_)
  repeat' fail
  have told0 : ∀ (Q : DK), Q (.lst ((jobsL s).map dJob)) n3 → tfTold2 [.int 0, dPlan s ws, .non] n3 Q E0d := fun Q h =>
    ⟨0, _, _, rfl, f2 fp (fine_non.mono (by decide) (by decide)) (by decide) (by decide), fun np => absurd ⟨s, ws, rfl, ok⟩ np, .inl ⟨rfl, fun s' ws' e _ => by
      obtain ⟨rfl, rfl⟩ := dPlan_inj e
      exact h⟩⟩
  have told1 : ∀ (v : D) (m : Nat) (Q : DK), Fine 8 5000 v → Q (.bl (hasJobD s v)) m → tfTold2 [.int 1, dPlan s ws, v] m Q E0d := fun v m Q hv h =>
    ⟨1, _, _, rfl, f2 fp hv (by decide) (by decide), fun np => absurd ⟨s, ws, rfl, ok⟩ np, .inr ⟨rfl, fun s' ws' e _ => by
      obtain ⟨rfl, rfl⟩ := dPlan_inj e
      exact h⟩⟩
  refine told0 _ ?_
  obtain ⟨r, er, _, rok⟩ := fj.repr (by decide) (by decide)
  show dSeq _ _ _ [some (.d (.ro (ns.map .int))), some (.d .pen), some (.d x), some (.d (dPlan s ws)), some (.d (dInts s)), some (.d (.lst ((jobsL s).map dJob))), some (.own ((jobsL s).map dJob)), a7, a8, a9, a10, a11, a12] n3
  repeat' fail
  refine opt_of er ?_
  repeat' fail
  refine opt_of er (opt_of (str_ne rok) ?_)
  repeat' fail
  refine ⟨by rw [List.length_map]; omega, ?_⟩
  repeat' fail
  refine told0 _ ?_
  refine opt_of er ?_
  repeat' fail
  refine opt_of er (opt_of (str_ne rok) ?_)
  repeat' fail
  refine ⟨by omega, ?_⟩
  -- pairs of numbers
  refine for_ind (J := fun xs e m => m = n3 ∧ (∀ z ∈ xs, ∃ i : Int, z = .int i ∧ -1 ≤ i ∧ i < 10) ∧ ∃ b7 b8, e = [some (.d (.ro (ns.map .int))), some (.d .pen), some (.d x), some (.d (dPlan s ws)), some (.d (dInts s)), some (.d (.lst ((jobsL s).map dJob))), some (.own ((jobsL s).map dJob ++ [.tup [.int 0, .int 0]])), b7, b8, a9, a10, a11, a12]) ?_ ?_ _ _ _
    ⟨rfl, fun z hz => by obtain ⟨i, h1, h2, h3⟩ := mem_rng z hz; exact ⟨i, h1, h2, by have : (6 - -1 : Int).toNat = 7 := rfl; omega⟩, _, _, rfl⟩
  rotate_left
  · rintro z zs e m p ⟨rfl, hz, b7, b8, rfl⟩ hp
    obtain ⟨i, rfl, i0, i1⟩ := hz z List.mem_cons_self
    refine opt_of (x := [some (.d (.ro (ns.map .int))), some (.d .pen), some (.d x), some (.d (dPlan s ws)), some (.d (dInts s)), some (.d (.lst ((jobsL s).map dJob))), some (.own ((jobsL s).map dJob ++ [.tup [.int 0, .int 0]])), some (.d (.int i)), b8, a9, a10, a11, a12]) rfl ?_
    repeat' fail
    refine ⟨by omega, ?_⟩
    refine for_ind (J := fun xs e m' => m' = m ∧ (∀ z ∈ xs, ∃ i : Int, z = .int i ∧ -1 ≤ i ∧ i < 10) ∧ ∃ b8, e = [some (.d (.ro (ns.map .int))), some (.d .pen), some (.d x), some (.d (dPlan s ws)), some (.d (dInts s)), some (.d (.lst ((jobsL s).map dJob))), some (.own ((jobsL s).map dJob ++ [.tup [.int 0, .int 0]])), some (.d (.int i)), b8, a9, a10, a11, a12]) ?_ ?_ _ _ _
      ⟨rfl, fun z hz => by obtain ⟨i, h1, h2, h3⟩ := mem_rng z hz; exact ⟨i, h1, h2, by have : (8 - -1 : Int).toNat = 9 := rfl; omega⟩, _, rfl⟩
    · rintro e m' ⟨rfl, _, b8, rfl⟩
      exact hp _ _ ⟨rfl, fun z h => hz z (List.mem_cons_of_mem _ h), _, _, rfl⟩
    · rintro y ys e m' p ⟨rfl, hy, b8, rfl⟩ hp2
      obtain ⟨k, rfl, k0, k1⟩ := hy y List.mem_cons_self
      have fin := hp2 [some (.d (.ro (ns.map .int))), some (.d .pen), some (.d x), some (.d (dPlan s ws)), some (.d (dInts s)), some (.d (.lst ((jobsL s).map dJob))), some (.own ((jobsL s).map dJob ++ [.tup [.int 0, .int 0]])), some (.d (.int i)), some (.d (.int k)), a9, a10, a11, a12] m' ⟨rfl, fun z h => hy z (List.mem_cons_of_mem _ h), _, rfl⟩
      refine opt_of (x := [some (.d (.ro (ns.map .int))), some (.d .pen), some (.d x), some (.d (dPlan s ws)), some (.d (dInts s)), some (.d (.lst ((jobsL s).map dJob))), some (.own ((jobsL s).map dJob ++ [.tup [.int 0, .int 0]])), some (.d (.int i)), some (.d (.int k)), a9, a10, a11, a12]) rfl ?_
      repeat' fail
      refine told1 (dJob (i, k)) _ _ ((fine_pair (fine_m1 i0 i1) (fine_m1 k0 k1)).mono (by decide) (by decide)) ?_
      obtain ⟨rb, erb, _, rbok⟩ := (fine_bl (decide ((i, k) ∈ jobsL s))).repr (by decide) (by decide)
      rw [has_in]
      refine opt_of erb ?_
      repeat' fail
      refine opt_of (in_jobs (i, k) _) ?_
      refine opt_of erb (opt_of (str_ne rbok) ?_)
      repeat' fail
      exact fin
  rintro e m ⟨rfl, _, b7, b8, rfl⟩
  -- strange values
  repeat' first
    | fail
    | with_reducible refine opt_of (x := .int (10 ^ (20 : Int).toNat)) (by kernel_rfl) ?_
    | with_reducible refine And.intro (by with_unfolding_all exact of_decide_eq_true rfl) ?_
    | done
  refine for_ind (J := fun xs e m' => m' = m ∧ (∀ z ∈ xs, z ∈ strangeL) ∧ ∃ b9 b10, e = [some (.d (.ro (ns.map .int))), some (.d .pen), some (.d x), some (.d (dPlan s ws)), some (.d (dInts s)), some (.d (.lst ((jobsL s).map dJob))), some (.own ((jobsL s).map dJob ++ [.tup [.int 0, .int 0]])), b7, b8, b9, b10, a11, a12]) ?_ ?_ _ _ _
    ⟨rfl, fun z hz => hz, _, _, rfl⟩
  rotate_left
  · rintro z zs e m' p ⟨rfl, hz, b9, b10, rfl⟩ hp
    have mz := hz z List.mem_cons_self
    have fin := hp [some (.d (.ro (ns.map .int))), some (.d .pen), some (.d x), some (.d (dPlan s ws)), some (.d (dInts s)), some (.d (.lst ((jobsL s).map dJob))), some (.own ((jobsL s).map dJob ++ [.tup [.int 0, .int 0]])), b7, b8, b9, some (.d z), a11, a12] m' ⟨rfl, fun y h => hz y (List.mem_cons_of_mem _ h), _, _, rfl⟩
    refine opt_of (x := [some (.d (.ro (ns.map .int))), some (.d .pen), some (.d x), some (.d (dPlan s ws)), some (.d (dInts s)), some (.d (.lst ((jobsL s).map dJob))), some (.own ((jobsL s).map dJob ++ [.tup [.int 0, .int 0]])), b7, b8, b9, some (.d z), a11, a12]) rfl ?_
    repeat' fail
    refine told1 z _ _ ((strange_fine z mz).mono (by decide) (by decide)) ?_
    rw [strange_no sok z mz]
    refine opt_of (x := .str "False") (by kernel_rfl) ?_
    repeat' fail
    refine opt_of (x := .bl false) (by with_unfolding_all rfl) ?_
    repeat' fail
    exact fin
  rintro e m' ⟨rfl, _, b9, b10, rfl⟩
  repeat' fail
  refine ⟨s, ws, rfl, ok, by omega, fun bx n4 hb d1 d2 => ?_⟩
  have fb : Fine 6 5000 bx := hb.1
  repeat' fail
  refine ⟨0, _, _, rfl, f2 fb (fine_non.mono (by decide) (by decide)) (by decide) (by decide), fun _ => ?_, .inl ⟨rfl, fun s' ws' e o => absurd ⟨s', ws', e, o⟩ hb.2⟩⟩
  repeat' fail
  refine ⟨1, _, _, rfl, f2 (d := 6) (L := 5000) fb (fineB_ok (by kernel_rfl)) (by decide) (by decide), fun _ => ?_, .inr ⟨rfl, fun s' ws' e o => absurd ⟨s', ws', e, o⟩ hb.2⟩⟩
  repeat' fail
  refine ⟨1, _, _, rfl, f2 fb (fine_non.mono (by decide) (by decide)) (by decide) (by decide), fun _ => ?_, .inr ⟨rfl, fun s' ws' e o => absurd ⟨s', ws', e, o⟩ hb.2⟩⟩
  repeat' fail
  refine opt_of (x := .lst [.str "plan", .str "plan", .str "plan"]) (by with_unfolding_all rfl) ?_
  refine opt_of (x := .bl false) (by with_unfolding_all rfl) ?_
  repeat' fail
  repeat' first
    | fail
    | with_reducible refine ev_lenI ?_
    | done
  refine ⟨by rw [List.length_map]; show _ + 2 ≤ _; omega, ?_⟩
  have fin : ∀ (b12 : Option S), q [some (.d (.ro (ns.map .int))), some (.d .pen), some (.d x), some (.d (dPlan s ws)), some (.d (dInts s)), some (.d (.lst ((jobsL s).map dJob))), some (.own ((jobsL s).map dJob ++ [.tup [.int 0, .int 0]])), b7, b8, b9, b10, some (.d bx), b12] n4 := fun b12 => hq _ _ ⟨by omega, _, _, _, _, _, _, _, _, _, _, _, rfl⟩
  show dIfS _ _ _ _ [some (.d (.ro (ns.map .int))), some (.d .pen), some (.d x), some (.d (dPlan s ws)), some (.d (dInts s)), some (.d (.lst ((jobsL s).map dJob))), some (.own ((jobsL s).map dJob ++ [.tup [.int 0, .int 0]])), b7, b8, b9, b10, some (.d bx), some (.d (.lst ((jobsL s).map dJob ++ [.tup [.int s.length, .int 0], .tup [.int s.length, .int 1]])))] n4
  repeat' first
    | fail
    | with_reducible refine ev_lenI ?_
    | done
  by_cases c : (s.length : Int) < 4
  · rw [decide_eq_true c]
    refine if_t ?_
    repeat' first
      | fail
      | with_reducible refine cat_I (by simp only [List.length_cons, List.length_nil]; omega) ?_
      | done
    have s2 : SizesOk (s ++ [2]) := ⟨by rw [List.length_append, List.length_singleton]; omega, by rw [List.length_append, List.length_singleton]; omega, fun y hy => by
      rcases List.mem_append.mp hy with hy | hy
      · exact sok.2.2 y hy
      · rw [List.mem_singleton.mp hy]
        omega⟩
    have ok2 : PlanOk (s ++ [2]) [] := ⟨s2, by show 0 ≤ 24; omega, (fun _ h => nomatch h), rfl⟩
    have e2 : D.tup [.tup (s.map .int ++ [.int 2]), .tup []] = dPlan (s ++ [2]) [] := by
      unfold dPlan dInts dWaits
      rw [List.map_append]
      rfl
    rw [e2]
    refine ⟨0, _, _, rfl, f2 (d := 8) (L := 5000) ((fine_ok ok2).mono (by decide) (by decide)) (fine_non.mono (by decide) (by decide)) (by decide) (by decide), fun np => absurd ⟨_, _, rfl, ok2⟩ np, .inl ⟨rfl, fun s' ws' e o => ?_⟩⟩
    obtain ⟨rfl, rfl⟩ := dPlan_inj e
    have e3 : (jobsL s).map dJob ++ [D.tup [.int s.length, .int 0], .tup [.int s.length, .int 1]] = (jobsL (s ++ [2])).map dJob := by
      rw [jobs_more, List.map_append]
      rfl
    rw [e3]
    refine opt_of ((fine_jobsL s2).ne (by decide)) ?_
    repeat' fail
    exact fin _
  · rw [decide_eq_false c]
    refine if_f ?_
    repeat' fail
    exact fin _
end K02L

set_option Elab.async false
set_option linter.all false
set_option maxRecDepth 100000
set_option maxHeartbeats 4000000
namespace K02
open PySem L2 VD PenM VS Pl K02L
open Ka hiding b__law_told
open Lb (b__law_jobs tfJobs jobs_ok)
open M04 (b__law_refusal b__law_kept tfKept tfRefusal kept_ok refusal_ok ErrF isv fld)
theorem sc_is_int : FnScope ["value"] ["value"] (defScope s_is_int) := ⟨rfl, rfl, rfl, by decide +kernel, rfl, by decide +kernel, by decide +kernel⟩
theorem ok_is_int {P : Program} {w : World} {K : PySem.W.Frag} {mg : Str → Option Value} {base : Heap} {f : Addr} {fd : FuncData} {pn : Pw} {k : Nat} (B : BltN mg) (F : Fun K "is_int" "is_int" s_is_int f fd) :
    FnG P w K mg base CX0 (k + 1) f fd ["value"] (spD 1 pn K .m (bodyTF 1 (b_is_int))) :=
  ok_m F sc_is_int (b_is_int) fun cdv A outer s H E Ed hr hG he =>
    have nd : (cxOf CX0 P w K mg base ["value"] "is_int" (defScope s_is_int) f cdv A outer s H E).N.Nodup := sc_is_int.nd
    (psd_one (psd_ret (pd_and (pd_isi B.isinstance B.int rfl rfl (pd_var 0)) (pd_one (pd_not (pd_isi B.isinstance B.bool rfl rfl (pd_var 0)))))))

theorem sc_is_pair : FnScope ["value"] ["value"] (defScope s_is_pair) := ⟨rfl, rfl, rfl, by decide +kernel, rfl, by decide +kernel, by decide +kernel⟩
theorem ok_is_pair {P : Program} {w : World} {K : PySem.W.Frag} {mg : Str → Option Value} {base : Heap} {f : Addr} {fd : FuncData} {pn : Pw} {k : Nat} (B : BltN mg) (F : Fun K "is_pair" "is_pair" s_is_pair f fd) :
    FnG P w K mg base CX0 (k + 1) f fd ["value"] (spD 1 pn K .m (bodyTF 1 (b_is_pair))) :=
  ok_m F sc_is_pair (b_is_pair) fun cdv A outer s H E Ed hr hG he =>
    have nd : (cxOf CX0 P w K mg base ["value"] "is_pair" (defScope s_is_pair) f cdv A outer s H E).N.Nodup := sc_is_pair.nd
    (psd_one (psd_ret (pd_and (pd_isi B.isinstance B.tuple rfl rfl (pd_var 0)) (pd_one (pd_co (oc_eq hr) (pd_len B.len rfl (pd_var 0)) pd_int)))))

theorem sc_is_below : FnScope ["value", "limit"] ["value", "limit"] (defScope s_is_below) := ⟨rfl, rfl, rfl, by decide +kernel, rfl, by decide +kernel, by decide +kernel⟩
theorem ok_is_below {P : Program} {w : World} {K : PySem.W.Frag} {mg : Str → Option Value} {base : Heap} {f : Addr} {fd : FuncData} {pn : Pw} {k : Nat} {kis_int : Nat} (B : BltN mg) {t_is_int : TF} (h_is_int : Has P w K mg base CX0 kis_int "is_int" ["value"] (spD 1 pn K .m t_is_int)) (jis_int : kis_int ≤ k) (F : Fun K "is_below" "is_below" s_is_below f fd) :
    FnG P w K mg base CX0 (k + 1) f fd ["value", "limit"] (spD 2 pn K .m (bodyTF 2 (b_is_below t_is_int))) :=
  ok_m F sc_is_below (b_is_below t_is_int) fun cdv A outer s H E Ed hr hG he =>
    have nd : (cxOf CX0 P w K mg base ["value", "limit"] "is_below" (defScope s_is_below) f cdv A outer s H E).N.Nodup := sc_is_below.nd
    (psd_one (psd_ret (pd_and (pd_callH h_is_int hr (by omega) hG rfl tak0 (pda_cons (pd_var 0) pda_nil)) (pd_one (pd_ch oc_le oc_lt pd_int (pd_var 0) (pd_var 1))))))

theorem sc_are_sizes : FnScope ["value"] ["value"] (defScope s_are_sizes) := ⟨rfl, rfl, rfl, by decide +kernel, rfl, by decide +kernel, by decide +kernel⟩
theorem ok_are_sizes {P : Program} {w : World} {K : PySem.W.Frag} {mg : Str → Option Value} {base : Heap} {f c T : Addr} {fd : FuncData} {pn : Pw} {k : Nat} {kis_below : Nat} (B : BltN mg) {o_MOST_QUEUES : Tok} (m_MOST_QUEUES : mg "MOST_QUEUES" = some (.int 4 o_MOST_QUEUES)) {o_MOST_PLACES : Tok} (m_MOST_PLACES : mg "MOST_PLACES" = some (.int 6 o_MOST_PLACES)) {t_is_below : TF} (h_is_below : Has P w K mg base CX0 kis_below "is_below" ["value", "limit"] (spD 2 pn K .m t_is_below)) (jis_below : kis_below ≤ k) (F : Fun K "are_sizes" "are_sizes" s_are_sizes f fd) (hc : fd.code = .ref c) (hP : T ∈ pn.tabs) (TB : GxR.TabB base mg c T) :
    FnG P w K mg base CX0 (k + 2) f fd ["value"] (spD 1 pn K .m (bodyTF 1 (b_are_sizes t_is_below))) :=
  ok_mC (k := k + 1) F hc sc_are_sizes (b_are_sizes t_is_below) fun A outer s H E Ed hr hG he =>
    have nd : (cxOf CX0 P w K mg base ["value"] "are_sizes" (defScope s_are_sizes) f (.ref c) A outer s H E).N.Nodup := sc_are_sizes.nd
    (psd_cons (psd_if (pdw_pt (pdw_or (pdt_not (pdt_tr (pd_isi B.isinstance B.tuple rfl rfl (pd_var 0)))) (pdw_or1 (pdt_not (pdt_ch oc_le oc_le pd_int (pd_len B.len rfl (pd_var 0)) (pd_globI rfl m_MOST_QUEUES)))))) (psd_one (psd_ret pd_bl)) psd_nil) (psd_one (psd_ret (pd_all (cs := []) hr hG rfl B.all boot_all hP TB rfl (gens_of (sc := defScope s_are_sizes) rfl rfl (by decide +kernel) rfl rfl (by decide +kernel)) (caps_of (sc := defScope s_are_sizes) (by decide +kernel) (by decide +kernel) (by decide +kernel) (by decide +kernel)) (pid_tup (pd_var 0)) (by decide +kernel) fun code it pl fp s1 H1 hr hG => (pd_callH h_is_below hr (by omega) hG rfl tak0 (pda_cons (pd_var 0) (pda_cons (pd_bin ob_add (pd_globI rfl m_MOST_PLACES) pd_int) pda_nil)))))))

theorem sc_has_job : FnScope ["sizes", "value"] ["sizes", "value"] (defScope s_has_job) := ⟨rfl, rfl, rfl, by decide +kernel, rfl, by decide +kernel, by decide +kernel⟩
theorem ok_has_job {P : Program} {w : World} {K : PySem.W.Frag} {mg : Str → Option Value} {base : Heap} {f : Addr} {fd : FuncData} {pn : Pw} {k : Nat} {kis_pair : Nat} {kis_below : Nat} (B : BltN mg) {t_is_pair : TF} (h_is_pair : Has P w K mg base CX0 kis_pair "is_pair" ["value"] (spD 1 pn K .m t_is_pair)) (jis_pair : kis_pair ≤ k) {t_is_below : TF} (h_is_below : Has P w K mg base CX0 kis_below "is_below" ["value", "limit"] (spD 2 pn K .m t_is_below)) (jis_below : kis_below ≤ k) (F : Fun K "has_job" "has_job" s_has_job f fd) :
    FnG P w K mg base CX0 (k + 1) f fd ["sizes", "value"] (spD 2 pn K .m (bodyTF 2 (b_has_job t_is_pair t_is_below))) :=
  ok_m F sc_has_job (b_has_job t_is_pair t_is_below) fun cdv A outer s H E Ed hr hG he =>
    have nd : (cxOf CX0 P w K mg base ["sizes", "value"] "has_job" (defScope s_has_job) f cdv A outer s H E).N.Nodup := sc_has_job.nd
    (psd_cons (psd_if (pdw_pt (pdw_or (pdt_not (pdt_tr (pd_callH h_is_pair hr (by omega) hG rfl tak0 (pda_cons (pd_var 1) pda_nil)))) (pdw_or1 (pdt_not (pdt_tr (pd_callH h_is_below hr (by omega) hG rfl tak0 (pda_cons (pd_ixT (pd_var 1) pd_int) (pda_cons (pd_len B.len rfl (pd_var 0)) pda_nil)))))))) (psd_one (psd_ret pd_bl)) psd_nil) (psd_one (psd_ret (pd_callH h_is_below hr (by omega) hG rfl tak0 (pda_cons (pd_ixT (pd_var 1) pd_int) (pda_cons (pd_ixT (pd_var 0) (pd_ixT (pd_var 1) pd_int)) pda_nil))))))

theorem sc_can_wait : FnScope ["sizes", "value"] ["sizes", "value"] (defScope s_can_wait) := ⟨rfl, rfl, rfl, by decide +kernel, rfl, by decide +kernel, by decide +kernel⟩
theorem ok_can_wait {P : Program} {w : World} {K : PySem.W.Frag} {mg : Str → Option Value} {base : Heap} {f : Addr} {fd : FuncData} {pn : Pw} {k : Nat} {kis_pair : Nat} {khas_job : Nat} (B : BltN mg) {t_is_pair : TF} (h_is_pair : Has P w K mg base CX0 kis_pair "is_pair" ["value"] (spD 1 pn K .m t_is_pair)) (jis_pair : kis_pair ≤ k) {t_has_job : TF} (h_has_job : Has P w K mg base CX0 khas_job "has_job" ["sizes", "value"] (spD 2 pn K .m t_has_job)) (jhas_job : khas_job ≤ k) (F : Fun K "can_wait" "can_wait" s_can_wait f fd) :
    FnG P w K mg base CX0 (k + 1) f fd ["sizes", "value"] (spD 2 pn K .m (bodyTF 2 (b_can_wait t_is_pair t_has_job))) :=
  ok_m F sc_can_wait (b_can_wait t_is_pair t_has_job) fun cdv A outer s H E Ed hr hG he =>
    have nd : (cxOf CX0 P w K mg base ["sizes", "value"] "can_wait" (defScope s_can_wait) f cdv A outer s H E).N.Nodup := sc_can_wait.nd
    (psd_cons (psd_if (pdw_pt (pdw_or (pdt_not (pdt_tr (pd_callH h_is_pair hr (by omega) hG rfl tak0 (pda_cons (pd_var 1) pda_nil)))) (pdw_or (pdt_not (pdt_tr (pd_callH h_has_job hr (by omega) hG rfl tak0 (pda_cons (pd_var 0) (pda_cons (pd_ixT (pd_var 1) pd_int) pda_nil))))) (pdw_or1 (pdt_not (pdt_tr (pd_callH h_has_job hr (by omega) hG rfl tak0 (pda_cons (pd_var 0) (pda_cons (pd_ixT (pd_var 1) pd_int) pda_nil))))))))) (psd_one (psd_ret pd_bl)) psd_nil) (psd_one (psd_ret (pd_co (oc_ne hr) (pd_ixT (pd_ixT (pd_var 1) pd_int) pd_int) (pd_ixT (pd_ixT (pd_var 1) pd_int) pd_int)))))

theorem sc_are_waits : FnScope ["sizes", "value", "wait", "other"] ["sizes", "value"] (defScope s_are_waits) := ⟨rfl, rfl, rfl, by decide +kernel, rfl, by decide +kernel, by decide +kernel⟩
theorem ok_are_waits {P : Program} {w : World} {K : PySem.W.Frag} {mg : Str → Option Value} {base : Heap} {f c T : Addr} {fd : FuncData} {pn : Pw} {k : Nat} {kcan_wait : Nat} (B : BltN mg) {o_MOST_WAITS : Tok} (m_MOST_WAITS : mg "MOST_WAITS" = some (.int 24 o_MOST_WAITS)) {t_can_wait : TF} (h_can_wait : Has P w K mg base CX0 kcan_wait "can_wait" ["sizes", "value"] (spD 2 pn K .m t_can_wait)) (jcan_wait : kcan_wait ≤ k) (F : Fun K "are_waits" "are_waits" s_are_waits f fd) (hc : fd.code = .ref c) (hP : T ∈ pn.tabs) (TB : GxR.TabB base mg c T) :
    FnG P w K mg base CX0 (k + 2) f fd ["sizes", "value"] (spD 2 pn K .m (bodyTF 4 (b_are_waits t_can_wait))) :=
  ok_mC (k := k + 1) F hc sc_are_waits (b_are_waits t_can_wait) fun A outer s H E Ed hr hG he =>
    have nd : (cxOf CX0 P w K mg base ["sizes", "value", "wait", "other"] "are_waits" (defScope s_are_waits) f (.ref c) A outer s H E).N.Nodup := sc_are_waits.nd
    (psd_cons (psd_if (pdw_pt (pdw_or (pdt_not (pdt_tr (pd_isi B.isinstance B.tuple rfl rfl (pd_var 1)))) (pdw_or1 (pdt_co oc_gt (pd_len B.len rfl (pd_var 1)) (pd_globI rfl m_MOST_WAITS))))) (psd_one (psd_ret pd_bl)) psd_nil) (psd_cons (psd_if (pdt_not (pdt_tr (pd_all (cs := [("sizes", 0)]) hr hG rfl B.all boot_all hP TB rfl (gens_of (sc := defScope s_are_waits) rfl rfl (by decide +kernel) rfl rfl (by decide +kernel)) (caps_of (sc := defScope s_are_waits) (by decide +kernel) (by decide +kernel) (by decide +kernel) (by decide +kernel)) (pid_tup (pd_var 1)) (by decide +kernel) fun code it pl fp s1 H1 hr hG => (pd_callH h_can_wait hr (by omega) hG rfl tak0 (pda_cons (pd_var 1) (pda_cons (pd_var 0) pda_nil)))))) (psd_one (psd_ret pd_bl)) psd_nil) (psd_one (psd_ret (pd_allL rfl B.all rfl (pd_lc (own := [("wait", 2), ("other", 3)]) rfl nd (pid_zip rfl B.zip (pd_var 1) (pd_slT (pd_var 1) (pdo_pt pd_int) pdo_no)) (show BlkOk ["sizes", "value", "wait", "other"] (defScope s_are_waits) _ _ from ⟨rfl, by decide +kernel, by decide +kernel, by decide +kernel, by decide +kernel⟩) (by decide) (fun _ _ _ _ _ => (pgd_tup rfl (pgds_cons (pgd_nm 2 nd) (pgds_cons (pgd_nm 3 nd) pgds_nil)) (hl := (gCn_len (gCn_len gNl_len))))) (fun _ _ _ _ _ => ptd_no) (fun _ _ _ _ _ => (pd_co (oc_ltX hr) (pd_var 2) (pd_var 3)))))))))

theorem sc_is_plan : FnScope ["value"] ["value"] (defScope s_is_plan) := ⟨rfl, rfl, rfl, by decide +kernel, rfl, by decide +kernel, by decide +kernel⟩
theorem ok_is_plan {P : Program} {w : World} {K : PySem.W.Frag} {mg : Str → Option Value} {base : Heap} {f : Addr} {fd : FuncData} {pn : Pw} {k : Nat} {kis_pair : Nat} {kare_sizes : Nat} {kare_waits : Nat} (B : BltN mg) {t_is_pair : TF} (h_is_pair : Has P w K mg base CX0 kis_pair "is_pair" ["value"] (spD 1 pn K .m t_is_pair)) (jis_pair : kis_pair ≤ k) {t_are_sizes : TF} (h_are_sizes : Has P w K mg base CX0 kare_sizes "are_sizes" ["value"] (spD 1 pn K .m t_are_sizes)) (jare_sizes : kare_sizes ≤ k) {t_are_waits : TF} (h_are_waits : Has P w K mg base CX0 kare_waits "are_waits" ["sizes", "value"] (spD 2 pn K .m t_are_waits)) (jare_waits : kare_waits ≤ k) (F : Fun K "is_plan" "is_plan" s_is_plan f fd) :
    FnG P w K mg base CX0 (k + 1) f fd ["value"] (spD 1 pn K .m (bodyTF 1 (b_is_plan t_is_pair t_are_sizes t_are_waits))) :=
  ok_m F sc_is_plan (b_is_plan t_is_pair t_are_sizes t_are_waits) fun cdv A outer s H E Ed hr hG he =>
    have nd : (cxOf CX0 P w K mg base ["value"] "is_plan" (defScope s_is_plan) f cdv A outer s H E).N.Nodup := sc_is_plan.nd
    (psd_one (psd_ret (pd_and (pd_callH h_is_pair hr (by omega) hG rfl tak0 (pda_cons (pd_var 0) pda_nil)) (pd_and (pd_callH h_are_sizes hr (by omega) hG rfl tak0 (pda_cons (pd_ixT (pd_var 0) pd_int) pda_nil)) (pd_one (pd_callH h_are_waits hr (by omega) hG rfl tak0 (pda_cons (pd_ixT (pd_var 0) pd_int) (pda_cons (pd_ixT (pd_var 0) pd_int) pda_nil))))))))

theorem sc_check_plan : FnScope ["value"] ["value"] (defScope s_check_plan) := ⟨rfl, rfl, rfl, by decide +kernel, rfl, by decide +kernel, by decide +kernel⟩
theorem ok_check_plan {P : Program} {w : World} {K : PySem.W.Frag} {mg : Str → Option Value} {base : Heap} {f : Addr} {fd : FuncData} {pn : Pw} {k : Nat} {kis_plan : Nat} (B : BltN mg) {C_InvalidPlan : Addr} (m_InvalidPlan : mg "InvalidPlan" = some (.ref C_InvalidPlan)) (x_InvalidPlan : Exc0 K C_InvalidPlan) {t_is_plan : TF} (h_is_plan : Has P w K mg base CX0 kis_plan "is_plan" ["value"] (spD 1 pn K .m t_is_plan)) (jis_plan : kis_plan ≤ k) (F : Fun K "check_plan" "check_plan" s_check_plan f fd) :
    FnG P w K mg base (L2.CX P w) (k + 1) f fd ["value"] (spD 1 pn K .m (bodyTF 1 (b_check_plan C_InvalidPlan t_is_plan))) :=
  ok_m F sc_check_plan (b_check_plan C_InvalidPlan t_is_plan) fun cdv A outer s H E Ed hr hG he =>
    have nd : (cxOf (L2.CX P w) P w K mg base ["value"] "check_plan" (defScope s_check_plan) f cdv A outer s H E).N.Nodup := sc_check_plan.nd
    (psd_one (psd_if (pdt_not (pdt_tr (pd_callH h_is_plan hr (by omega) hG rfl tak0 (pda_cons (pd_var 0) pda_nil)))) (psd_one (psd_raiseN rfl takes_cx he x_InvalidPlan m_InvalidPlan rfl)) psd_nil))

theorem sc_jobs_of : FnScope ["sizes", "queue", "size", "place"] ["sizes"] (defScope s_jobs_of) := ⟨rfl, rfl, rfl, by decide +kernel, rfl, by decide +kernel, by decide +kernel⟩
theorem ok_jobs_of {P : Program} {w : World} {K : PySem.W.Frag} {mg : Str → Option Value} {base : Heap} {f : Addr} {fd : FuncData} {pn : Pw} {k : Nat} (B : BltN mg) (F : Fun K "jobs_of" "jobs_of" s_jobs_of f fd) :
    FnG P w K mg base CX0 (k + 1) f fd ["sizes"] (spD 1 pn K .f (bodyTFf 4 (b_jobs_of))) :=
  ok_f F sc_jobs_of (b_jobs_of) fun cdv A outer s H E Ed hr hG he =>
    have nd : (cxOf CX0 P w K mg base ["sizes", "queue", "size", "place"] "jobs_of" (defScope s_jobs_of) f cdv A outer s H E).N.Nodup := sc_jobs_of.nd
    (psd_one (psd_retF (pd_lc2 (own := [("queue", 1), ("size", 2), ("place", 3)]) (vs1 := [3]) rfl nd (pid_enumT rfl B.enumerate (pd_var 0)) (show BlkOk ["sizes", "queue", "size", "place"] (defScope s_jobs_of) _ _ from ⟨rfl, by decide +kernel, by decide +kernel, by decide +kernel, by decide +kernel⟩) (by decide) (by decide) (by decide) (gok_tup (gsok_cons (gok_nm 1) (gsok_cons (gok_nm 2) gsok_nil))) (fun _ _ _ _ _ => (pgd_tup rfl (pgds_cons (pgd_nm 1 nd) (pgds_cons (pgd_nm 2 nd) pgds_nil)) (hl := (gCn_len (gCn_len gNl_len))))) (fun _ _ _ _ _ => ptd_no) (fun _ _ _ _ _ => (pid_r1 rfl B.range (pd_var 2))) (fun _ _ _ _ _ => (pgd_nm 3 nd)) (fun _ _ _ _ _ => ptd_no) (fun _ _ _ _ _ => (pd_tup (pda_cons (pd_var 1) (pda_cons (pd_var 3) pda_nil)))))))

theorem sc_jobs : FnScope ["plan"] ["plan"] (defScope s_jobs) := ⟨rfl, rfl, rfl, by decide +kernel, rfl, by decide +kernel, by decide +kernel⟩
theorem ok_jobs {P : Program} {w : World} {K : PySem.W.Frag} {mg : Str → Option Value} {base : Heap} {f : Addr} {fd : FuncData} {pn : Pw} {k : Nat} {kcheck_plan : Nat} {kjobs_of : Nat} (B : BltN mg) {t_check_plan : TF} (h_check_plan : Has P w K mg base (L2.CX P w) kcheck_plan "check_plan" ["value"] (spD 1 pn K .m t_check_plan)) (jcheck_plan : kcheck_plan ≤ k) {t_jobs_of : TF} (h_jobs_of : Has P w K mg base CX0 kjobs_of "jobs_of" ["sizes"] (spD 1 pn K .f t_jobs_of)) (jjobs_of : kjobs_of ≤ k) (F : Fun K "jobs" "jobs" s_jobs f fd) :
    FnG P w K mg base (L2.CX P w) (k + 1) f fd ["plan"] (spD 1 pn K .f (bodyTFf 1 (b_jobs t_check_plan t_jobs_of))) :=
  ok_f F sc_jobs (b_jobs t_check_plan t_jobs_of) fun cdv A outer s H E Ed hr hG he =>
    have nd : (cxOf (L2.CX P w) P w K mg base ["plan"] "jobs" (defScope s_jobs) f cdv A outer s H E).N.Nodup := sc_jobs.nd
    (psd_cons (psd_expr (pd_callH h_check_plan hr (by omega) hG rfl (tak_of takes_cx he) (pda_cons (pd_var 0) pda_nil))) (psd_one (psd_retF (pd_callH h_jobs_of hr (by omega) hG rfl tak0 (pda_cons (pd_ixT (pd_var 0) pd_int) pda_nil)))))

theorem sc_is_job : FnScope ["plan", "value"] ["plan", "value"] (defScope s_is_job) := ⟨rfl, rfl, rfl, by decide +kernel, rfl, by decide +kernel, by decide +kernel⟩
theorem ok_is_job {P : Program} {w : World} {K : PySem.W.Frag} {mg : Str → Option Value} {base : Heap} {f : Addr} {fd : FuncData} {pn : Pw} {k : Nat} {kcheck_plan : Nat} {khas_job : Nat} (B : BltN mg) {t_check_plan : TF} (h_check_plan : Has P w K mg base (L2.CX P w) kcheck_plan "check_plan" ["value"] (spD 1 pn K .m t_check_plan)) (jcheck_plan : kcheck_plan ≤ k) {t_has_job : TF} (h_has_job : Has P w K mg base CX0 khas_job "has_job" ["sizes", "value"] (spD 2 pn K .m t_has_job)) (jhas_job : khas_job ≤ k) (F : Fun K "is_job" "is_job" s_is_job f fd) :
    FnG P w K mg base (L2.CX P w) (k + 1) f fd ["plan", "value"] (spD 2 pn K .m (bodyTF 2 (b_is_job t_check_plan t_has_job))) :=
  ok_m F sc_is_job (b_is_job t_check_plan t_has_job) fun cdv A outer s H E Ed hr hG he =>
    have nd : (cxOf (L2.CX P w) P w K mg base ["plan", "value"] "is_job" (defScope s_is_job) f cdv A outer s H E).N.Nodup := sc_is_job.nd
    (psd_cons (psd_expr (pd_callH h_check_plan hr (by omega) hG rfl (tak_of takes_cx he) (pda_cons (pd_var 0) pda_nil))) (psd_one (psd_ret (pd_callH h_has_job hr (by omega) hG rfl tak0 (pda_cons (pd_ixT (pd_var 0) pd_int) (pda_cons (pd_var 1) pda_nil))))))

theorem sc__law_spread : FnScope ["cell", "at", "primes", "mixed", "one", "two", "three"] ["cell", "at"] (defScope s__law_spread) := ⟨rfl, rfl, rfl, by decide +kernel, rfl, by decide +kernel, by decide +kernel⟩
theorem ok__law_spread {P : Program} {w : World} {K : PySem.W.Frag} {mg : Str → Option Value} {base : Heap} {f : Addr} {fd : FuncData} {pn : Pw} {k : Nat} (B : BltN mg) (F : Fun K "_law_spread" "_law_spread" s__law_spread f fd) :
    FnG P w K mg base CX0 (k + 1) f fd ["cell", "at"] (spD 2 pn K .m (bodyTF 7 (b__law_spread))) :=
  ok_m F sc__law_spread (b__law_spread) fun cdv A outer s H E Ed hr hG he =>
    have nd : (cxOf CX0 P w K mg base ["cell", "at", "primes", "mixed", "one", "two", "three"] "_law_spread" (defScope s__law_spread) f cdv A outer s H E).N.Nodup := sc__law_spread.nd
    (psd_cons (psd_if (pdt_co oc_ge (pd_var 0) (pd_bin ob_pow pd_int pd_int)) (psd_one (psd_ret (pd_var 0))) psd_nil) (psd_cons (psd_set 2 nd (pd_fz (pd_lst (pda_cons pd_int (pda_cons pd_int (pda_cons pd_int (pda_cons pd_int (pda_cons pd_int (pda_cons pd_int (pda_cons pd_int pda_nil)))))))))) (psd_cons (psd_set 2 nd (pd_fz (pd_bin ob_catL (pd_var 2) (pd_lst (pda_cons pd_int (pda_cons pd_int (pda_cons pd_int (pda_cons pd_int (pda_cons pd_int (pda_cons pd_int pda_nil)))))))))) (psd_cons (psd_set 3 nd (pd_bin ob_add (pd_bin ob_add (pd_bin ob_mul (pd_bin ob_mod (pd_var 0) pd_int) (pd_bin ob_add (pd_bin ob_mul pd_int (pd_var 1)) pd_int)) (pd_bin ob_mul (pd_var 1) pd_int)) pd_int)) (psd_cons (psd_set 4 nd (pd_bin ob_mod (pd_bin ob_pow (pd_var 3) pd_int) (pd_ixL (pd_var 2) (pd_bin ob_mod (pd_var 1) pd_int)))) (psd_cons (psd_set 5 nd (pd_bin ob_mod (pd_bin ob_pow (pd_bin ob_add (pd_bin ob_add (pd_bin ob_mul (pd_var 4) (pd_bin ob_add (pd_var 1) pd_int)) (pd_bin ob_mod (pd_var 0) pd_int)) pd_int) pd_int) (pd_ixL (pd_var 2) (pd_bin ob_mod (pd_bin ob_add (pd_var 1) pd_int) pd_int)))) (psd_cons (psd_set 6 nd (pd_bin ob_mod (pd_bin ob_pow (pd_bin ob_add (pd_bin ob_add (pd_var 5) (pd_bin ob_mod (pd_var 4) pd_int)) (pd_var 1)) pd_int) (pd_ixL (pd_var 2) (pd_bin ob_mod (pd_bin ob_add (pd_var 1) pd_int) pd_int)))) (psd_one (psd_ret (pd_bin ob_add (pd_bin ob_mul (pd_bin ob_add (pd_bin ob_mul (pd_var 4) pd_int) (pd_var 5)) pd_int) (pd_var 6)))))))))))

theorem sc__law_open : FnScope ["script", "cells", "k", "cell"] ["script"] (defScope s__law_open) := ⟨rfl, rfl, rfl, by decide +kernel, rfl, by decide +kernel, by decide +kernel⟩
theorem ok__law_open {P : Program} {w : World} {K : PySem.W.Frag} {mg : Str → Option Value} {base : Heap} {f : Addr} {fd : FuncData} {pn : Pw} {k : Nat} (B : BltN mg) (F : Fun K "_law_open" "_law_open" s__law_open f fd) :
    FnG P w K mg base CX0 (k + 1) f fd ["script"] (spD 1 pn K .f (bodyTFf 4 (b__law_open))) :=
  ok_f F sc__law_open (b__law_open) fun cdv A outer s H E Ed hr hG he =>
    have nd : (cxOf CX0 P w K mg base ["script", "cells", "k", "cell"] "_law_open" (defScope s__law_open) f cdv A outer s H E).N.Nodup := sc__law_open.nd
    (psd_cons (psd_setO 1 nd (pd_toL B.list rfl (pd_slL (pd_var 0) pdo_no (pdo_pt pd_int)))) (psd_cons (psd_for owns_cx rfl (pid_enumL rfl B.enumerate (pd_fz (pd_slL (pd_var 0) (pdo_pt pd_int) (pdo_pt pd_int)))) (pgd_tup rfl (pgds_cons (pgd_nm 2 nd) (pgds_cons (pgd_nm 3 nd) pgds_nil)) (hl := (gCn_len (gCn_len gNl_len)))) (psd_one (psd_put 1 (pd_bin ob_add (pd_ixL (pd_own 1) (pd_bin ob_mod (pd_var 2) pd_int)) (pd_var 3)) (pd_bin ob_mod (pd_var 2) pd_int)))) (psd_frz 1 (psd_one (psd_retF (pd_lst (pda_cons (pd_var 1) (pda_cons pd_int (pda_cons pd_int pda_nil)))))))))

theorem sc__law_anew : FnScope ["pen"] ["pen"] (defScope s__law_anew) := ⟨rfl, rfl, rfl, by decide +kernel, rfl, by decide +kernel, by decide +kernel⟩
theorem ok__law_anew {P : Program} {w : World} {K : PySem.W.Frag} {mg : Str → Option Value} {base : Heap} {f : Addr} {fd : FuncData} {pn : Pw} {k : Nat} (B : BltN mg) (F : Fun K "_law_anew" "_law_anew" s__law_anew f fd) :
    FnG P w K mg base CX0 (k + 1) f fd ["pen"] (spD 1 pn K .m (bodyTF 1 (b__law_anew))) :=
  ok_m F sc__law_anew (b__law_anew) fun cdv A outer s H E Ed hr hG he =>
    have nd : (cxOf CX0 P w K mg base ["pen"] "_law_anew" (defScope s__law_anew) f cdv A outer s H E).N.Nodup := sc__law_anew.nd
    (psd_cons (psd_pen2 0 pd_int) (psd_one (psd_ret (pd_var 0))))

theorem sc__law_take : FnScope ["pen", "many", "at", "cell", "found"] ["pen", "many"] (defScope s__law_take) := ⟨rfl, rfl, rfl, by decide +kernel, rfl, by decide +kernel, by decide +kernel⟩
theorem ok__law_take {P : Program} {w : World} {K : PySem.W.Frag} {mg : Str → Option Value} {base : Heap} {f : Addr} {fd : FuncData} {pn : Pw} {k : Nat} {k_law_spread : Nat} (B : BltN mg) {t__law_spread : TF} (h__law_spread : Has P w K mg base CX0 k_law_spread "_law_spread" ["cell", "at"] (spD 2 pn K .m t__law_spread)) (j_law_spread : k_law_spread ≤ k) (F : Fun K "_law_take" "_law_take" s__law_take f fd) :
    FnG P w K mg base CX0 (k + 1) f fd ["pen", "many"] (spD 2 pn K .m (bodyTF 5 (b__law_take pn.cells t__law_spread))) :=
  ok_m F sc__law_take (b__law_take pn.cells t__law_spread) fun cdv A outer s H E Ed hr hG he =>
    have nd : (cxOf CX0 P w K mg base ["pen", "many", "at", "cell", "found"] "_law_take" (defScope s__law_take) f cdv A outer s H E).N.Nodup := sc__law_take.nd
    (psd_cons (psd_if (pdt_co oc_lt (pd_pen2 0) (pd_var 1)) (psd_cons (psd_set 2 nd (pd_pen1 0)) (psd_cons (psd_set 3 nd pd_int) (psd_cons (psd_if (pdt_co oc_lt (pd_var 2) (pd_len B.len rfl (pd_pen0 0))) (psd_one (psd_set 3 nd (pd_ixL (pd_pen0 0) (pd_var 2)))) (psd_one (psd_if (pdt_co oc_gt (pd_len B.len rfl (pd_pen0 0)) pd_int) (psd_one (psd_set 3 nd (pd_bin ob_mod (pd_ixL (pd_pen0 0) (pd_bin ob_mod (pd_bin ob_add (pd_bin ob_mul (pd_var 2) pd_int) pd_int) (pd_len B.len rfl (pd_pen0 0)))) (pd_bin ob_add (pd_bin ob_pow pd_int pd_int) (pd_var 2))))) psd_nil))) (psd_cons (psd_pen1 0 (pd_bin ob_add (pd_var 2) pd_int)) (psd_one (psd_pen2 0 (pd_callH h__law_spread hr (by omega) hG rfl tak0 (pda_cons (pd_var 3) (pda_cons (pd_var 2) pda_nil))))))))) psd_nil) (psd_cons (psd_set 4 nd (pd_bin ob_mod (pd_pen2 0) (pd_var 1))) (psd_cons (psd_pen2 0 (pd_bin ob_div (pd_pen2 0) (pd_var 1))) (psd_one (psd_ret (pd_var 4))))))

theorem sc__law_one : FnScope ["pen", "some"] ["pen", "some"] (defScope s__law_one) := ⟨rfl, rfl, rfl, by decide +kernel, rfl, by decide +kernel, by decide +kernel⟩
theorem ok__law_one {P : Program} {w : World} {K : PySem.W.Frag} {mg : Str → Option Value} {base : Heap} {f : Addr} {fd : FuncData} {pn : Pw} {k : Nat} {k_law_take : Nat} (B : BltN mg) {t__law_take : TF} (h__law_take : Has P w K mg base CX0 k_law_take "_law_take" ["pen", "many"] (spD 2 pn K .m t__law_take)) (j_law_take : k_law_take ≤ k) (F : Fun K "_law_one" "_law_one" s__law_one f fd) :
    FnG P w K mg base CX0 (k + 1) f fd ["pen", "some"] (spD 2 pn K .m (bodyTF 2 (b__law_one t__law_take))) :=
  ok_m F sc__law_one (b__law_one t__law_take) fun cdv A outer s H E Ed hr hG he =>
    have nd : (cxOf CX0 P w K mg base ["pen", "some"] "_law_one" (defScope s__law_one) f cdv A outer s H E).N.Nodup := sc__law_one.nd
    (psd_one (psd_ret (pd_ixL (pd_var 1) (pd_callH h__law_take hr (by omega) hG rfl tak0 (pda_cons (pd_var 0) (pda_cons (pd_len B.len rfl (pd_var 1)) pda_nil))))))

theorem sc__law_jobs : FnScope ["sizes", "found", "queue", "size", "place"] ["sizes"] (defScope s__law_jobs) := ⟨rfl, rfl, rfl, by decide +kernel, rfl, by decide +kernel, by decide +kernel⟩
theorem ok__law_jobs {P : Program} {w : World} {K : PySem.W.Frag} {mg : Str → Option Value} {base : Heap} {f : Addr} {fd : FuncData} {pn : Pw} {k : Nat} (B : BltN mg) (F : Fun K "_law_jobs" "_law_jobs" s__law_jobs f fd) :
    FnG P w K mg base CX0 (k + 1) f fd ["sizes"] (spD 1 pn K .f (bodyTFf 5 (b__law_jobs))) :=
  ok_f F sc__law_jobs (b__law_jobs) fun cdv A outer s H E Ed hr hG he =>
    have nd : (cxOf CX0 P w K mg base ["sizes", "found", "queue", "size", "place"] "_law_jobs" (defScope s__law_jobs) f cdv A outer s H E).N.Nodup := sc__law_jobs.nd
    (psd_cons (psd_setO 1 nd (pd_lst pda_nil)) (psd_cons (psd_for owns_cx rfl (pid_enumT rfl B.enumerate (pd_var 0)) (pgd_tup rfl (pgds_cons (pgd_nm 2 nd) (pgds_cons (pgd_nm 3 nd) pgds_nil)) (hl := (gCn_len (gCn_len gNl_len)))) (psd_one (psd_ext 1 (pd_lc (own := [("place", 4)]) rfl nd (pid_r1 rfl B.range (pd_var 3)) (show BlkOk ["sizes", "found", "queue", "size", "place"] (defScope s__law_jobs) _ _ from ⟨rfl, by decide +kernel, by decide +kernel, by decide +kernel, by decide +kernel⟩) (by decide) (fun _ _ _ _ _ => (pgd_nm 4 nd)) (fun _ _ _ _ _ => ptd_no) (fun _ _ _ _ _ => (pd_tup (pda_cons (pd_var 2) (pda_cons (pd_var 4) pda_nil)))))))) (psd_one (psd_retO 1))))

theorem sc__law_sizes : FnScope ["pen", "most", "queue"] ["pen", "most"] (defScope s__law_sizes) := ⟨rfl, rfl, rfl, by decide +kernel, rfl, by decide +kernel, by decide +kernel⟩
theorem ok__law_sizes {P : Program} {w : World} {K : PySem.W.Frag} {mg : Str → Option Value} {base : Heap} {f : Addr} {fd : FuncData} {pn : Pw} {k : Nat} {k_law_take : Nat} (B : BltN mg) {t__law_take : TF} (h__law_take : Has P w K mg base CX0 k_law_take "_law_take" ["pen", "many"] (spD 2 pn K .m t__law_take)) (j_law_take : k_law_take ≤ k) (F : Fun K "_law_sizes" "_law_sizes" s__law_sizes f fd) :
    FnG P w K mg base CX0 (k + 1) f fd ["pen", "most"] (spD 2 pn K .m (bodyTF 3 (b__law_sizes t__law_take))) :=
  ok_m F sc__law_sizes (b__law_sizes t__law_take) fun cdv A outer s H E Ed hr hG he =>
    have nd : (cxOf CX0 P w K mg base ["pen", "most", "queue"] "_law_sizes" (defScope s__law_sizes) f cdv A outer s H E).N.Nodup := sc__law_sizes.nd
    (psd_one (psd_ret (pd_toT B.tuple rfl (pd_lc (own := [("queue", 2)]) rfl nd (pid_r1 rfl B.range (pd_bin ob_add pd_int (pd_callH h__law_take hr (by omega) hG rfl tak0 (pda_cons (pd_var 0) (pda_cons pd_int pda_nil))))) (show BlkOk ["pen", "most", "queue"] (defScope s__law_sizes) _ _ from ⟨rfl, by decide +kernel, by decide +kernel, by decide +kernel, by decide +kernel⟩) (by decide) (fun _ _ _ _ _ => (pgd_nm 2 nd)) (fun _ _ _ _ _ => ptd_no) (fun _ _ _ _ _ => (pd_callH h__law_take hr (by omega) hG rfl tak0 (pda_cons (pd_var 0) (pda_cons (pd_bin ob_add (pd_var 1) pd_int) pda_nil))))))))

theorem sc__law_plan : FnScope ["pen", "most", "many", "sizes", "left", "row", "queue", "waits", "step", "one", "two", "low", "high", "size", "place"] ["pen", "most", "many"] (defScope s__law_plan) := ⟨rfl, rfl, rfl, by decide +kernel, rfl, by decide +kernel, by decide +kernel⟩
theorem ok__law_plan {P : Program} {w : World} {K : PySem.W.Frag} {mg : Str → Option Value} {base : Heap} {f : Addr} {fd : FuncData} {pn : Pw} {k : Nat} {k_law_sizes : Nat} {k_law_one : Nat} {k_law_take : Nat} (B : BltN mg) {t__law_sizes : TF} (h__law_sizes : Has P w K mg base CX0 k_law_sizes "_law_sizes" ["pen", "most"] (spD 2 pn K .m t__law_sizes)) (j_law_sizes : k_law_sizes ≤ k) {t__law_one : TF} (h__law_one : Has P w K mg base CX0 k_law_one "_law_one" ["pen", "some"] (spD 2 pn K .m t__law_one)) (j_law_one : k_law_one ≤ k) {t__law_take : TF} (h__law_take : Has P w K mg base CX0 k_law_take "_law_take" ["pen", "many"] (spD 2 pn K .m t__law_take)) (j_law_take : k_law_take ≤ k) (F : Fun K "_law_plan" "_law_plan" s__law_plan f fd) :
    FnG P w K mg base CX0 (k + 1) f fd ["pen", "most", "many"] (spD 3 pn K .m (bodyTF 15 (b__law_plan t__law_sizes t__law_one t__law_take))) :=
  ok_m F sc__law_plan (b__law_plan t__law_sizes t__law_one t__law_take) fun cdv A outer s H E Ed hr hG he =>
    have nd : (cxOf CX0 P w K mg base ["pen", "most", "many", "sizes", "left", "row", "queue", "waits", "step", "one", "two", "low", "high", "size", "place"] "_law_plan" (defScope s__law_plan) f cdv A outer s H E).N.Nodup := sc__law_plan.nd
    (psd_cons (psd_set 3 nd (pd_callH h__law_sizes hr (by omega) hG rfl tak0 (pda_cons (pd_var 0) (pda_cons (pd_var 1) pda_nil)))) (psd_cons (psd_par (oi := true) (oj := true) 4 5 rfl nd (pd_toL B.list rfl (pd_var 3)) (pd_lst pda_nil)) (psd_cons (psd_while owns_cx (pdt_co (oc_ne hr) (pd_lcX (own := [("size", 13)]) rfl nd (pidx_own 4) (show BlkOk ["pen", "most", "many", "sizes", "left", "row", "queue", "waits", "step", "one", "two", "low", "high", "size", "place"] (defScope s__law_plan) _ _ from ⟨rfl, by decide +kernel, by decide +kernel, by decide +kernel, by decide +kernel⟩) (by decide) (fun _ _ _ _ _ => (pgd_nm 13 nd)) (fun _ _ _ _ _ => (ptd_one (pdt_co oc_gt (pd_var 13) pd_int))) (fun _ _ _ _ _ => (pd_var 13))) (pd_lst pda_nil)) (psd_cons (psd_set 6 nd (pd_callH h__law_one hr (by omega) hG rfl tak0 (pda_cons (pd_var 0) (pda_cons (pd_fz (pd_lcX (own := [("place", 14), ("size", 13)]) rfl nd (pidx_ownE 4 rfl B.enumerate) (show BlkOk ["pen", "most", "many", "sizes", "left", "row", "queue", "waits", "step", "one", "two", "low", "high", "size", "place"] (defScope s__law_plan) _ _ from ⟨rfl, by decide +kernel, by decide +kernel, by decide +kernel, by decide +kernel⟩) (by decide) (fun _ _ _ _ _ => (pgd_tup rfl (pgds_cons (pgd_nm 14 nd) (pgds_cons (pgd_nm 13 nd) pgds_nil)) (hl := (gCn_len (gCn_len gNl_len))))) (fun _ _ _ _ _ => (ptd_one (pdt_co oc_gt (pd_var 13) pd_int))) (fun _ _ _ _ _ => (pd_var 14)))) pda_nil)))) (psd_cons (psd_app 5 (pd_tup (pda_cons (pd_var 6) (pda_cons (pd_bin ob_sub (pd_ixT (pd_var 3) (pd_var 6)) (pd_ixL (pd_own 4) (pd_var 6))) pda_nil)))) (psd_one (psd_put 4 (pd_bin ob_sub (pd_ixL (pd_own 4) (pd_var 6)) pd_int) (pd_var 6)))))) (psd_cons (psd_setO 7 nd (pd_lst pda_nil)) (psd_cons (psd_for owns_cx rfl (pid_r1 rfl B.range (pd_callH h__law_take hr (by omega) hG rfl tak0 (pda_cons (pd_var 0) (pda_cons (pd_bin ob_add (pd_var 2) pd_int) pda_nil)))) (pgd_nm 8 nd) (psd_cons (psd_par (oi := false) (oj := false) 9 10 rfl nd (pd_callH h__law_take hr (by omega) hG rfl tak0 (pda_cons (pd_var 0) (pda_cons (pd_bin ob_add (pd_len B.len rfl (pd_own 5)) pd_int) pda_nil))) (pd_callH h__law_take hr (by omega) hG rfl tak0 (pda_cons (pd_var 0) (pda_cons (pd_bin ob_add (pd_len B.len rfl (pd_own 5)) pd_int) pda_nil)))) (psd_cons (psd_par (oi := false) (oj := false) 11 12 rfl nd (pd_min rfl B.min rfl (pd_var 9) (pd_var 10)) (pd_max rfl B.max rfl (pd_var 9) (pd_var 10))) (psd_one (psd_if (pdw_pt (pdw_and (pdt_co oc_lt (pd_var 12) (pd_len B.len rfl (pd_own 5))) (pdw_and1 (pdt_co (oc_ne hr) (pd_ixT (pd_ixL (pd_own 5) (pd_var 11)) pd_int) (pd_ixT (pd_ixL (pd_own 5) (pd_var 12)) pd_int))))) (psd_one (psd_app 7 (pd_tup (pda_cons (pd_ixL (pd_own 5) (pd_var 11)) (pda_cons (pd_ixL (pd_own 5) (pd_var 12)) pda_nil))))) psd_nil))))) (psd_one (psd_ret (pd_tup (pda_cons (pd_var 3) (pda_cons (pd_toT B.tuple rfl (pd_sortedSet hr rfl B.sorted rfl B.set rfl (pd_own 7))) pda_nil))))))))))

theorem sc__law_any_plan : FnScope ["pen", "most", "many", "sizes", "every", "waits", "step", "one", "two"] ["pen", "most", "many"] (defScope s__law_any_plan) := ⟨rfl, rfl, rfl, by decide +kernel, rfl, by decide +kernel, by decide +kernel⟩
theorem ok__law_any_plan {P : Program} {w : World} {K : PySem.W.Frag} {mg : Str → Option Value} {base : Heap} {f : Addr} {fd : FuncData} {pn : Pw} {k : Nat} {k_law_sizes : Nat} {k_law_jobs : Nat} {k_law_take : Nat} {k_law_one : Nat} (B : BltN mg) {t__law_sizes : TF} (h__law_sizes : Has P w K mg base CX0 k_law_sizes "_law_sizes" ["pen", "most"] (spD 2 pn K .m t__law_sizes)) (j_law_sizes : k_law_sizes ≤ k) {t__law_jobs : TF} (h__law_jobs : Has P w K mg base CX0 k_law_jobs "_law_jobs" ["sizes"] (spD 1 pn K .f t__law_jobs)) (j_law_jobs : k_law_jobs ≤ k) {t__law_take : TF} (h__law_take : Has P w K mg base CX0 k_law_take "_law_take" ["pen", "many"] (spD 2 pn K .m t__law_take)) (j_law_take : k_law_take ≤ k) {t__law_one : TF} (h__law_one : Has P w K mg base CX0 k_law_one "_law_one" ["pen", "some"] (spD 2 pn K .m t__law_one)) (j_law_one : k_law_one ≤ k) (F : Fun K "_law_any_plan" "_law_any_plan" s__law_any_plan f fd) :
    FnG P w K mg base CX0 (k + 1) f fd ["pen", "most", "many"] (spD 3 pn K .m (bodyTF 9 (b__law_any_plan t__law_sizes t__law_jobs t__law_take t__law_one))) :=
  ok_m F sc__law_any_plan (b__law_any_plan t__law_sizes t__law_jobs t__law_take t__law_one) fun cdv A outer s H E Ed hr hG he =>
    have nd : (cxOf CX0 P w K mg base ["pen", "most", "many", "sizes", "every", "waits", "step", "one", "two"] "_law_any_plan" (defScope s__law_any_plan) f cdv A outer s H E).N.Nodup := sc__law_any_plan.nd
    (psd_cons (psd_set 3 nd (pd_callH h__law_sizes hr (by omega) hG rfl tak0 (pda_cons (pd_var 0) (pda_cons (pd_var 1) pda_nil)))) (psd_cons (psd_par (oi := false) (oj := true) 4 5 rfl nd (pd_fz (pd_callH h__law_jobs hr (by omega) hG rfl tak0 (pda_cons (pd_var 3) pda_nil))) (pd_lst pda_nil)) (psd_cons (psd_for owns_cx rfl (pid_r1 rfl B.range (pd_callH h__law_take hr (by omega) hG rfl tak0 (pda_cons (pd_var 0) (pda_cons (pd_bin ob_add (pd_var 2) pd_int) pda_nil)))) (pgd_nm 6 nd) (psd_one (psd_if (pdt_co (oc_ne hr) (pd_var 4) (pd_lst pda_nil)) (psd_cons (psd_par (oi := false) (oj := false) 7 8 rfl nd (pd_callH h__law_one hr (by omega) hG rfl tak0 (pda_cons (pd_var 0) (pda_cons (pd_var 4) pda_nil))) (pd_callH h__law_one hr (by omega) hG rfl tak0 (pda_cons (pd_var 0) (pda_cons (pd_var 4) pda_nil)))) (psd_one (psd_ext 5 (pd_repL (pd_lst (pda_cons (pd_tup (pda_cons (pd_var 7) (pda_cons (pd_var 8) pda_nil))) pda_nil)) (pd_toI B.int rfl (pd_co (oc_ne hr) (pd_ixT (pd_var 7) pd_int) (pd_ixT (pd_var 8) pd_int))))))) psd_nil))) (psd_one (psd_ret (pd_tup (pda_cons (pd_var 3) (pda_cons (pd_toT B.tuple rfl (pd_sortedSet hr rfl B.sorted rfl B.set rfl (pd_own 5))) pda_nil))))))))

theorem sc__law_kept : FnScope ["caught", "word"] ["caught", "word"] (defScope s__law_kept) := ⟨rfl, rfl, rfl, by decide +kernel, rfl, by decide +kernel, by decide +kernel⟩
theorem ok__law_kept {P : Program} {w : World} {K : PySem.W.Frag} {mg : Str → Option Value} {base : Heap} {f : Addr} {fd : FuncData} {pn : Pw} {k : Nat} (B : BltN mg) (F : Fun K "_law_kept" "_law_kept" s__law_kept f fd) :
    FnG P w K mg base CX0 (k + 1) f fd ["caught", "word"] (spD 2 pn K .m (bodyTF 2 (b__law_kept K))) :=
  ok_m F sc__law_kept (b__law_kept K) fun cdv A outer s H E Ed hr hG he =>
    have nd : (cxOf CX0 P w K mg base ["caught", "word"] "_law_kept" (defScope s__law_kept) f cdv A outer s H E).N.Nodup := sc__law_kept.nd
    (psd_cons (psd_if (pdt_co (oc_in hr) (pd_var 1) (pd_tup (pda_cons pd_str (pda_cons pd_str (pda_cons pd_str pda_nil))))) (psd_one (psd_ret (pd_xat (pd_var 0)))) psd_nil) (psd_cons (psd_if (pdt_co (oc_in hr) (pd_var 1) (pd_tup (pda_cons pd_str (pda_cons pd_str pda_nil)))) (psd_one (psd_ret (pd_xat (pd_var 0)))) psd_nil) (psd_cons (psd_if (pdt_co (oc_in hr) (pd_var 1) (pd_tup (pda_cons pd_str (pda_cons pd_str (pda_cons pd_str pda_nil))))) (psd_one (psd_ret (pd_xat (pd_var 0)))) psd_nil) (psd_one (psd_ret (pd_if (pdt_co (oc_eq hr) (pd_var 1) pd_str) (pd_xat (pd_var 0)) (pd_if (pdt_co (oc_eq hr) (pd_var 1) pd_str) (pd_xat (pd_var 0)) (pd_xat (pd_var 0)))))))))

theorem sc__law_refusal : FnScope ["caught", "plain", "kept", "some", "words", "word"] ["caught"] (defScope s__law_refusal) := ⟨rfl, rfl, rfl, by decide +kernel, rfl, by decide +kernel, by decide +kernel⟩
theorem ok__law_refusal {P : Program} {w : World} {K : PySem.W.Frag} {mg : Str → Option Value} {base : Heap} {f : Addr} {fd : FuncData} {pn : Pw} {k : Nat} {k_law_kept : Nat} (B : BltN mg) {C_InvalidPlan : Addr} (m_InvalidPlan : mg "InvalidPlan" = some (.ref C_InvalidPlan)) {C_Unsound : Addr} (m_Unsound : mg "Unsound" = some (.ref C_Unsound)) {C_InvalidMoment : Addr} (m_InvalidMoment : mg "InvalidMoment" = some (.ref C_InvalidMoment)) {C_InvalidFlags : Addr} (m_InvalidFlags : mg "InvalidFlags" = some (.ref C_InvalidFlags)) {C_InvalidChoices : Addr} (m_InvalidChoices : mg "InvalidChoices" = some (.ref C_InvalidChoices)) {C_InvalidNumber : Addr} (m_InvalidNumber : mg "InvalidNumber" = some (.ref C_InvalidNumber)) {C_SameQueue : Addr} (m_SameQueue : mg "SameQueue" = some (.ref C_SameQueue)) {C_RingMade : Addr} (m_RingMade : mg "RingMade" = some (.ref C_RingMade)) {C_TooMany : Addr} (m_TooMany : mg "TooMany" = some (.ref C_TooMany)) {C_NothingFinished : Addr} (m_NothingFinished : mg "NothingFinished" = some (.ref C_NothingFinished)) {C_NotACertificate : Addr} (m_NotACertificate : mg "NotACertificate" = some (.ref C_NotACertificate)) {C_UnknownJob : Addr} (m_UnknownJob : mg "UnknownJob" = some (.ref C_UnknownJob)) {C_UnknownWait : Addr} (m_UnknownWait : mg "UnknownWait" = some (.ref C_UnknownWait)) {C_WaitTaken : Addr} (m_WaitTaken : mg "WaitTaken" = some (.ref C_WaitTaken)) {C_InvalidQueue : Addr} (m_InvalidQueue : mg "InvalidQueue" = some (.ref C_InvalidQueue)) {C_Ended : Addr} (m_Ended : mg "Ended" = some (.ref C_Ended)) {C_Blocked : Addr} (m_Blocked : mg "Blocked" = some (.ref C_Blocked)) {C_FlagUp : Addr} (m_FlagUp : mg "FlagUp" = some (.ref C_FlagUp)) {C_NotReady : Addr} (m_NotReady : mg "NotReady" = some (.ref C_NotReady)) {C_Finished : Addr} (m_Finished : mg "Finished" = some (.ref C_Finished)) {C_Full : Addr} (m_Full : mg "Full" = some (.ref C_Full)) {C_InvalidMark : Addr} (m_InvalidMark : mg "InvalidMark" = some (.ref C_InvalidMark)) {C_PlanError : Addr} (m_PlanError : mg "PlanError" = some (.ref C_PlanError)) {t__law_kept : TF} (h__law_kept : Has P w K mg base CX0 k_law_kept "_law_kept" ["caught", "word"] (spD 2 pn K .m t__law_kept)) (j_law_kept : k_law_kept ≤ k) (F : Fun K "_law_refusal" "_law_refusal" s__law_refusal f fd) :
    FnG P w K mg base CX0 (k + 1) f fd ["caught"] (spD 1 pn K .m (bodyTF 6 (b__law_refusal K C_InvalidPlan C_Unsound C_InvalidMoment C_InvalidFlags C_InvalidChoices C_InvalidNumber C_SameQueue C_RingMade C_TooMany C_NothingFinished C_NotACertificate C_UnknownJob C_UnknownWait C_WaitTaken C_InvalidQueue C_Ended C_Blocked C_FlagUp C_NotReady C_Finished C_Full C_InvalidMark C_PlanError t__law_kept))) :=
  ok_m F sc__law_refusal (b__law_refusal K C_InvalidPlan C_Unsound C_InvalidMoment C_InvalidFlags C_InvalidChoices C_InvalidNumber C_SameQueue C_RingMade C_TooMany C_NothingFinished C_NotACertificate C_UnknownJob C_UnknownWait C_WaitTaken C_InvalidQueue C_Ended C_Blocked C_FlagUp C_NotReady C_Finished C_Full C_InvalidMark C_PlanError t__law_kept) fun cdv A outer s H E Ed hr hG he =>
    have nd : (cxOf CX0 P w K mg base ["caught", "plain", "kept", "some", "words", "word"] "_law_refusal" (defScope s__law_refusal) f cdv A outer s H E).N.Nodup := sc__law_refusal.nd
    (psd_cons (psd_setO 1 nd (pd_lst (pda_cons (pd_isX B.isinstance rfl rfl m_InvalidPlan (pd_var 0)) (pda_cons (pd_isX B.isinstance rfl rfl m_Unsound (pd_var 0)) (pda_cons (pd_isX B.isinstance rfl rfl m_InvalidMoment (pd_var 0)) pda_nil))))) (psd_cons (psd_setO 1 nd (pd_bin ob_catL (pd_own 1) (pd_lst (pda_cons (pd_isX B.isinstance rfl rfl m_InvalidFlags (pd_var 0)) (pda_cons (pd_isX B.isinstance rfl rfl m_InvalidChoices (pd_var 0)) pda_nil))))) (psd_cons (psd_setO 1 nd (pd_bin ob_catL (pd_own 1) (pd_lst (pda_cons (pd_isX B.isinstance rfl rfl m_InvalidNumber (pd_var 0)) (pda_cons (pd_isX B.isinstance rfl rfl m_SameQueue (pd_var 0)) (pda_cons (pd_isX B.isinstance rfl rfl m_RingMade (pd_var 0)) pda_nil)))))) (psd_cons (psd_setO 1 nd (pd_bin ob_catL (pd_own 1) (pd_lst (pda_cons (pd_isX B.isinstance rfl rfl m_TooMany (pd_var 0)) (pda_cons (pd_isX B.isinstance rfl rfl m_NothingFinished (pd_var 0)) pda_nil))))) (psd_cons (psd_app 1 (pd_isX B.isinstance rfl rfl m_NotACertificate (pd_var 0))) (psd_cons (psd_set 2 nd (pd_fz (pd_lst (pda_cons (pd_isX B.isinstance rfl rfl m_UnknownJob (pd_var 0)) (pda_cons (pd_isX B.isinstance rfl rfl m_UnknownWait (pd_var 0)) (pda_cons (pd_isX B.isinstance rfl rfl m_WaitTaken (pd_var 0)) pda_nil)))))) (psd_cons (psd_set 2 nd (pd_fz (pd_bin ob_catL (pd_var 2) (pd_lst (pda_cons (pd_isX B.isinstance rfl rfl m_InvalidQueue (pd_var 0)) (pda_cons (pd_isX B.isinstance rfl rfl m_Ended (pd_var 0)) (pda_cons (pd_isX B.isinstance rfl rfl m_Blocked (pd_var 0)) pda_nil))))))) (psd_cons (psd_set 2 nd (pd_fz (pd_bin ob_catL (pd_var 2) (pd_lst (pda_cons (pd_isX B.isinstance rfl rfl m_FlagUp (pd_var 0)) (pda_cons (pd_isX B.isinstance rfl rfl m_NotReady (pd_var 0)) (pda_cons (pd_isX B.isinstance rfl rfl m_Finished (pd_var 0)) pda_nil))))))) (psd_cons (psd_set 2 nd (pd_fz (pd_bin ob_catL (pd_var 2) (pd_lst (pda_cons (pd_isX B.isinstance rfl rfl m_Full (pd_var 0)) (pda_cons (pd_isX B.isinstance rfl rfl m_InvalidMark (pd_var 0)) pda_nil)))))) (psd_cons (psd_set 3 nd (pd_fz (pd_bin ob_catL (pd_own 1) (pd_var 2)))) (psd_cons (psd_if (pdw_pt (pdw_or (pdt_co (oc_ne hr) (pd_count hr (pd_var 3) pd_bl) pd_int) (pdw_or (pdt_not (pdt_tr (pd_isX B.isinstance rfl rfl m_PlanError (pd_var 0)))) (pdw_or1 (pdt_not (pdt_tr (pd_isXb B.isinstance rfl rfl B.ValueError (by decide +kernel) (pd_var 0)))))))) (psd_one (psd_ret pd_str)) psd_nil) (psd_cons (psd_set 4 nd (pd_fz (pd_lst (pda_cons pd_str (pda_cons pd_str (pda_cons pd_str (pda_cons pd_str (pda_cons pd_str (pda_cons pd_str (pda_cons pd_str (pda_cons pd_str (pda_cons pd_str (pda_cons pd_str pda_nil))))))))))))) (psd_cons (psd_set 4 nd (pd_fz (pd_bin ob_catL (pd_var 4) (pd_lst (pda_cons pd_str (pda_cons pd_str (pda_cons pd_str (pda_cons pd_str (pda_cons pd_str (pda_cons pd_str (pda_cons pd_str (pda_cons pd_str (pda_cons pd_str pda_nil))))))))))))) (psd_cons (psd_set 5 nd (pd_ixL (pd_bin ob_catL (pd_var 4) (pd_lst (pda_cons pd_str (pda_cons pd_str (pda_cons pd_str pda_nil))))) (pd_index hr (pd_var 3) pd_bl))) (psd_one (psd_ret (pd_if (pdt_co (oc_in hr) pd_bl (pd_own 1)) (pd_var 5) (pd_bin ob_catS (pd_bin ob_catS (pd_var 5) pd_str) (pd_repr hr hG B.repr rfl (pd_callH h__law_kept hr (by omega) hG rfl tak0 (pda_cons (pd_var 0) (pda_cons (pd_var 5) pda_nil))))))))))))))))))))))

theorem sc__law_bad_plan : FnScope ["pen", "plan", "sizes", "waits", "every", "wrong", "some"] ["pen", "plan"] (defScope s__law_bad_plan) := ⟨rfl, rfl, rfl, by decide +kernel, rfl, by decide +kernel, by decide +kernel⟩
theorem ok__law_bad_plan {P : Program} {w : World} {K : PySem.W.Frag} {mg : Str → Option Value} {base : Heap} {f : Addr} {fd : FuncData} {pn : Pw} {k : Nat} {k_law_jobs : Nat} {k_law_one : Nat} (B : BltN mg) {t__law_jobs : TF} (h__law_jobs : Has P w K mg base CX0 k_law_jobs "_law_jobs" ["sizes"] (spD 1 pn K .f t__law_jobs)) (j_law_jobs : k_law_jobs ≤ k) {t__law_one : TF} (h__law_one : Has P w K mg base CX0 k_law_one "_law_one" ["pen", "some"] (spD 2 pn K .m t__law_one)) (j_law_one : k_law_one ≤ k) (F : Fun K "_law_bad_plan" "_law_bad_plan" s__law_bad_plan f fd) :
    FnG P w K mg base CX0 (k + 1) f fd ["pen", "plan"] (spD 2 pn K .m (bodyTF 7 (b__law_bad_plan t__law_jobs t__law_one))) :=
  ok_m F sc__law_bad_plan (b__law_bad_plan t__law_jobs t__law_one) fun cdv A outer s H E Ed hr hG he =>
    have nd : (cxOf CX0 P w K mg base ["pen", "plan", "sizes", "waits", "every", "wrong", "some"] "_law_bad_plan" (defScope s__law_bad_plan) f cdv A outer s H E).N.Nodup := sc__law_bad_plan.nd
    (psd_cons (psd_asg (pd_var 1) (pgd_tup rfl (pgds_cons (pgd_nm 2 nd) (pgds_cons (pgd_nm 3 nd) pgds_nil)) (hl := (gCn_len (gCn_len gNl_len))))) (psd_cons (psd_set 4 nd (pd_fz (pd_callH h__law_jobs hr (by omega) hG rfl tak0 (pda_cons (pd_var 2) pda_nil)))) (psd_cons (psd_setO 5 nd (pd_lst (pda_cons (pd_tup (pda_cons (pd_tup (pda_cons pd_int (pda_cons pd_int pda_nil))) (pda_cons (pd_tup (pda_cons pd_int (pda_cons pd_int pda_nil))) pda_nil))) (pda_cons (pd_tup (pda_cons (pd_tup (pda_cons pd_int (pda_cons pd_int pda_nil))) (pda_cons (pd_tup (pda_cons pd_int (pda_cons pd_int pda_nil))) pda_nil))) (pda_cons (pd_tup (pda_cons (pd_tup (pda_cons pd_int (pda_cons pd_int pda_nil))) (pda_cons (pd_tup (pda_cons pd_int (pda_cons pd_int pda_nil))) pda_nil))) (pda_cons (pd_tup (pda_cons (pd_tup (pda_cons pd_bl (pda_cons pd_int pda_nil))) (pda_cons (pd_tup (pda_cons pd_int (pda_cons pd_int pda_nil))) pda_nil))) (pda_cons (pd_tup (pda_cons (pd_tup (pda_cons pd_int (pda_cons pd_int pda_nil))) pda_nil)) (pda_cons pd_non (pda_cons pd_str pda_nil))))))))) (psd_cons (psd_setO 5 nd (pd_bin ob_catL (pd_own 5) (pd_lst (pda_cons (pd_fz (pd_lst (pda_cons (pd_tup (pda_cons pd_int (pda_cons pd_int pda_nil))) (pda_cons (pd_tup (pda_cons pd_int (pda_cons pd_int pda_nil))) pda_nil)))) (pda_cons (pd_tup (pda_cons (pd_tup (pda_cons pd_int (pda_cons pd_int pda_nil))) (pda_cons (pd_tup (pda_cons pd_int (pda_cons pd_int pda_nil))) (pda_cons (pd_tup (pda_cons pd_int (pda_cons pd_int pda_nil))) pda_nil)))) (pda_cons (pd_tup (pda_cons (pd_tup (pda_cons pd_int (pda_cons (pd_neg pd_int) pda_nil))) (pda_cons (pd_tup (pda_cons pd_int (pda_cons pd_int pda_nil))) pda_nil))) (pda_cons (pd_tup (pda_cons (pd_tup (pda_cons pd_int (pda_cons pd_non pda_nil))) (pda_cons (pd_tup (pda_cons pd_int (pda_cons pd_int pda_nil))) pda_nil))) pda_nil))))))) (psd_cons (psd_app 5 (pd_tup (pda_cons (pd_tup (pda_cons (pd_fz (pd_lst (pda_cons pd_int pda_nil))) (pda_cons pd_int pda_nil))) (pda_cons (pd_tup (pda_cons pd_int (pda_cons pd_int pda_nil))) pda_nil)))) (psd_cons (psd_set 6 nd (pd_fz (pd_lst (pda_cons pd_non (pda_cons (pd_tup pda_nil) (pda_cons (pd_var 2) (pda_cons (pd_fz (pd_toL B.list rfl (pd_var 1))) (pda_cons (pd_tup (pda_cons (pd_var 2) pda_nil)) (pda_cons (pd_tup (pda_cons (pd_var 2) (pda_cons (pd_var 3) (pda_cons (pd_tup pda_nil) pda_nil)))) (pda_cons (pd_tup (pda_cons (pd_var 2) (pda_cons (pd_fz (pd_toL B.list rfl (pd_var 3))) pda_nil))) (pda_cons (pd_tup (pda_cons (pd_fz (pd_toL B.list rfl (pd_var 2))) (pda_cons (pd_var 3) pda_nil))) pda_nil))))))))))) (psd_cons (psd_set 6 nd (pd_fz (pd_bin ob_catL (pd_var 6) (pd_lst (pda_cons (pd_tup (pda_cons (pd_tup pda_nil) (pda_cons (pd_tup pda_nil) pda_nil))) (pda_cons (pd_tup (pda_cons (pd_bin ob_catT (pd_var 2) (pd_tup (pda_cons pd_int pda_nil))) (pda_cons (pd_tup pda_nil) pda_nil))) (pda_cons (pd_tup (pda_cons (pd_bin ob_catT (pd_var 2) (pd_tup (pda_cons (pd_neg pd_int) pda_nil))) (pda_cons (pd_tup pda_nil) pda_nil))) (pda_cons (pd_tup (pda_cons (pd_bin ob_repT (pd_tup (pda_cons pd_int pda_nil)) pd_int) (pda_cons (pd_tup pda_nil) pda_nil))) (pda_cons (pd_tup (pda_cons (pd_tup (pda_cons pd_bl pda_nil)) (pda_cons (pd_tup pda_nil) pda_nil))) (pda_cons (pd_tup (pda_cons (pd_tup (pda_cons pd_non pda_nil)) (pda_cons (pd_tup pda_nil) pda_nil))) pda_nil)))))))))) (psd_cons (psd_set 6 nd (pd_fz (pd_bin ob_catL (pd_var 6) (pd_lst (pda_cons pd_int (pda_cons pd_str pda_nil)))))) (psd_frz 5 (psd_cons (psd_set 6 nd (pd_fz (pd_bin ob_catL (pd_var 6) (pd_lst (pda_cons (pd_tup (pda_cons (pd_var 2) (pda_cons (pd_bin ob_catT (pd_var 3) (pd_tup (pda_cons (pd_callH h__law_one hr (by omega) hG rfl tak0 (pda_cons (pd_var 0) (pda_cons (pd_var 5) pda_nil))) pda_nil))) pda_nil))) (pda_cons (pd_tup (pda_cons (pd_var 2) (pda_cons (pd_bin ob_catT (pd_tup (pda_cons (pd_callH h__law_one hr (by omega) hG rfl tak0 (pda_cons (pd_var 0) (pda_cons (pd_var 5) pda_nil))) pda_nil)) (pd_var 3)) pda_nil))) (pda_cons (pd_tup (pda_cons (pd_var 2) (pda_cons pd_non pda_nil))) pda_nil))))))) (psd_cons (psd_if (pdt_co oc_gt (pd_len B.len rfl (pd_var 3)) pd_int) (psd_one (psd_set 6 nd (pd_fz (pd_bin ob_catL (pd_var 6) (pd_lst (pda_cons (pd_tup (pda_cons (pd_var 2) (pda_cons (pd_bin ob_catT (pd_var 3) (pd_slT (pd_var 3) (pdo_pt (pd_neg pd_int)) pdo_no)) pda_nil))) (pda_cons (pd_tup (pda_cons (pd_var 2) (pda_cons (pd_bin ob_catT (pd_slT (pd_var 3) pdo_no (pdo_pt pd_int)) (pd_var 3)) pda_nil))) pda_nil))))))) psd_nil) (psd_cons (psd_if (pdt_co oc_gt (pd_len B.len rfl (pd_var 3)) pd_int) (psd_one (psd_set 6 nd (pd_fz (pd_bin ob_catL (pd_var 6) (pd_lst (pda_cons (pd_tup (pda_cons (pd_var 2) (pda_cons (pd_backT (pd_var 3)) pda_nil))) (pda_cons (pd_tup (pda_cons (pd_var 2) (pda_cons (pd_bin ob_catT (pd_bin ob_catT (pd_slT (pd_var 3) (pdo_pt pd_int) (pdo_pt pd_int)) (pd_slT (pd_var 3) pdo_no (pdo_pt pd_int))) (pd_slT (pd_var 3) (pdo_pt pd_int) pdo_no)) pda_nil))) pda_nil))))))) psd_nil) (psd_one (psd_ret (pd_callH h__law_one hr (by omega) hG rfl tak0 (pda_cons (pd_var 0) (pda_cons (pd_fz (pd_bin ob_catL (pd_var 6) (pd_lst (pda_cons (pd_tup (pda_cons (pd_tup (pda_cons pd_int (pda_cons pd_int pda_nil))) (pda_cons (pd_tup (pda_cons (pd_tup (pda_cons (pd_tup (pda_cons pd_int (pda_cons pd_int pda_nil))) (pda_cons (pd_tup (pda_cons pd_int (pda_cons pd_int pda_nil))) pda_nil))) pda_nil)) pda_nil))) (pda_cons (pd_tup (pda_cons (pd_tup (pda_cons (pd_fz (pd_lst (pda_cons pd_int pda_nil))) pda_nil)) (pda_cons (pd_tup pda_nil) pda_nil))) (pda_cons pd_bl pda_nil)))))) pda_nil)))))))))))))))))

theorem sc__law_told : FnScope ["sort", "plan", "value", "caught", "found", "kept", "e"] ["sort", "plan", "value"] (defScope s__law_told) := ⟨rfl, rfl, rfl, by decide +kernel, rfl, by decide +kernel, by decide +kernel⟩
theorem ok__law_told {P : Program} {w : World} {K : PySem.W.Frag} {mg : Str → Option Value} {base : Heap} {f : Addr} {fd : FuncData} {pn : Pw} {k : Nat} {kjobs : Nat} {kis_job : Nat} {k_law_refusal : Nat} (B : BltN mg) {C_PlanError : Addr} (m_PlanError : mg "PlanError" = some (.ref C_PlanError)) {t_jobs : TF} (h_jobs : Has P w K mg base (L2.CX P w) kjobs "jobs" ["plan"] (spD 1 pn K .f t_jobs)) (jjobs : kjobs ≤ k) {t_is_job : TF} (h_is_job : Has P w K mg base (L2.CX P w) kis_job "is_job" ["plan", "value"] (spD 2 pn K .m t_is_job)) (jis_job : kis_job ≤ k) {t__law_refusal : TF} (h__law_refusal : Has P w K mg base CX0 k_law_refusal "_law_refusal" ["caught"] (spD 1 pn K .m t__law_refusal)) (j_law_refusal : k_law_refusal ≤ k) (F : Fun K "_law_told" "_law_told" s__law_told f fd) :
    FnG P w K mg base CX0 (k + 1) f fd ["sort", "plan", "value"] (spD 3 pn K .g (bodyTF 7 (b__law_told K C_PlanError t_jobs t_is_job t__law_refusal))) :=
  ok_g F sc__law_told (b__law_told K C_PlanError t_jobs t_is_job t__law_refusal) fun cdv A outer s H E Ed hr hG he =>
    have nd : (cxOf CX0 P w K mg base ["sort", "plan", "value", "caught", "found", "kept", "e"] "_law_told" (defScope s__law_told) f cdv A outer s H E).N.Nodup := sc__law_told.nd
    (psd_cons (psd_asg (pd_tup (pda_cons pd_non (pda_cons pd_non pda_nil))) (pgd_tup rfl (pgds_cons (pgd_nm 3 nd) (pgds_cons (pgd_nm 4 nd) pgds_nil)) (hl := (gCn_len (gCn_len gNl_len))))) (psd_cons (psd_set 5 nd (pd_repr hr hG B.repr rfl (pd_tup (pda_cons (pd_var 1) (pda_cons (pd_var 2) pda_nil))))) (psd_cons (psd_try (i := 6) (j := 3) rfl rfl rfl nd rfl rfl rfl rfl (by decide) ⟨rfl, by decide, .inl m_PlanError⟩ (fun pn1 xe EE H1 tk po => (psd_one (psd_setG 4 nd (pd_if (pdt_co (oc_eq hr) (pd_var 0) pd_int) (pd_fg (pd_callHE h_jobs hr (by omega) hG rfl tk (pda_cons (pd_var 1) pda_nil))) (pd_mg (pd_callHE h_is_job hr (by omega) hG rfl tk (pda_cons (pd_var 1) (pda_cons (pd_var 2) pda_nil)))))))) (fun a1 pn1 => pss_one (ps_set (i := 3) nd rfl (.inl rfl) (pe_var rfl (.inl rfl))))) (psd_cons (psd_if (pdt_co (oc_ne hr) (pd_repr hr hG B.repr rfl (pd_tup (pda_cons (pd_var 1) (pda_cons (pd_var 2) pda_nil)))) (pd_var 5)) (psd_one (psd_retG (pd_mg pd_str))) psd_nil) (psd_one (psd_retIG 4 (pdt_co oc_isN (pd_var 3) pd_non) (pd_mg (pd_callH h__law_refusal hr (by omega) hG rfl tak0 (pda_cons (pd_var 3) pda_nil)))))))))

theorem sc_law : FnScope ["script", "pen", "turn", "plan", "sizes", "due", "found", "queue", "place", "strange", "value", "bad", "more"] ["script"] (defScope s_law) := ⟨rfl, rfl, rfl, by decide +kernel, rfl, by decide +kernel, by decide +kernel⟩
theorem ok_law {P : Program} {w : World} {K : PySem.W.Frag} {mg : Str → Option Value} {base : Heap} {f : Addr} {fd : FuncData} {tabs : List Addr} {k ko : Nat} {t__law_open : TF} (B : BltN mg) {k_law_one : Nat} {t__law_one : List Int → TF} (h__law_one : ∀ a ns, Has P w K mg base CX0 k_law_one "_law_one" ["pen", "some"] (spD 2 ⟨some a, ns, tabs⟩ K .m (t__law_one ns))) (j_law_one : k_law_one ≤ k) {k_law_anew : Nat} {t__law_anew : List Int → TF} (h__law_anew : ∀ a ns, Has P w K mg base CX0 k_law_anew "_law_anew" ["pen"] (spD 1 ⟨some a, ns, tabs⟩ K .m (t__law_anew ns))) (j_law_anew : k_law_anew ≤ k) {k_law_plan : Nat} {t__law_plan : List Int → TF} (h__law_plan : ∀ a ns, Has P w K mg base CX0 k_law_plan "_law_plan" ["pen", "most", "many"] (spD 3 ⟨some a, ns, tabs⟩ K .m (t__law_plan ns))) (j_law_plan : k_law_plan ≤ k) {k_law_any_plan : Nat} {t__law_any_plan : List Int → TF} (h__law_any_plan : ∀ a ns, Has P w K mg base CX0 k_law_any_plan "_law_any_plan" ["pen", "most", "many"] (spD 3 ⟨some a, ns, tabs⟩ K .m (t__law_any_plan ns))) (j_law_any_plan : k_law_any_plan ≤ k) {k_law_jobs : Nat} {t__law_jobs : List Int → TF} (h__law_jobs : ∀ a ns, Has P w K mg base CX0 k_law_jobs "_law_jobs" ["sizes"] (spD 1 ⟨some a, ns, tabs⟩ K .f (t__law_jobs ns))) (j_law_jobs : k_law_jobs ≤ k) {k_law_told : Nat} {t__law_told : List Int → TF} (h__law_told : ∀ a ns, Has P w K mg base CX0 k_law_told "_law_told" ["sort", "plan", "value"] (spD 3 ⟨some a, ns, tabs⟩ K .g (t__law_told ns))) (j_law_told : k_law_told ≤ k) {k_law_bad_plan : Nat} {t__law_bad_plan : List Int → TF} (h__law_bad_plan : ∀ a ns, Has P w K mg base CX0 k_law_bad_plan "_law_bad_plan" ["pen", "plan"] (spD 2 ⟨some a, ns, tabs⟩ K .m (t__law_bad_plan ns))) (j_law_bad_plan : k_law_bad_plan ≤ k)
    (ho : Has P w K mg base CX0 ko "_law_open" ["script"] (spD 1 ⟨none, [], tabs⟩ K .f t__law_open)) (jo : ko ≤ k) (F : Fun K "law" "law" s_law f fd)
    (hm : ∀ ns : List Int, ns.length ≤ 63 → (∀ z ∈ ns, Builtin.Int.intBits z ≤ 1048576) → b0_law t__law_open (penThen 1 fun ns => (b1_law (t__law_one ns) (t__law_anew ns) (t__law_plan ns) (t__law_any_plan ns) (t__law_jobs ns) (t__law_told ns) (t__law_bad_plan ns) E0d)) (startE 13 [.ro (ns.map .int)]) 0) :
    FnG P w K mg base CX0 (k + 1) f fd ["script"] (spL tabs K) :=
  VD.ok_law (s0 := (defBody s_law).headD (.Pass ⟨0, 0, 0, 0⟩)) (rest := (defBody s_law).tail) (t0 := b0_law t__law_open) (t1 := fun ns => (b1_law (t__law_one ns) (t__law_anew ns) (t__law_plan ns) (t__law_any_plan ns) (t__law_jobs ns) (t__law_told ns) (t__law_bad_plan ns) E0d)) 1 F sc_law rfl (fun cdv A outer s H E hr hG =>
    have nd : (cxOf CX0 P w K mg base ["script", "pen", "turn", "plan", "sizes", "due", "found", "queue", "place", "strange", "value", "bad", "more"] "law" (defScope s_law) f cdv A outer s H E).N.Nodup := sc_law.nd
    psd_setO 1 nd (pd_callH ho hr (by omega) hG rfl tak0 (pda_cons (pd_var 0) pda_nil)))
    (fun a ns cdv A outer s H E hr hG =>
    have nd : (cxOf CX0 P w K mg base ["script", "pen", "turn", "plan", "sizes", "due", "found", "queue", "place", "strange", "value", "bad", "more"] "law" (defScope s_law) f cdv A outer s H E).N.Nodup := sc_law.nd
    (psd_cons (psd_for owns_cx rfl (pid_r1 rfl B.range pd_int) (pgd_nm 2 nd) (psd_cons (psd_set 3 nd (pd_callH (h__law_one a ns) hr (by omega) hG rfl tak0 (pda_cons (pd_callH (h__law_anew a ns) hr (by omega) hG rfl tak0 (pda_cons (pd_var 1) pda_nil)) (pda_cons (pd_fz (pd_lst (pda_cons (pd_callH (h__law_plan a ns) hr (by omega) hG rfl tak0 (pda_cons (pd_var 1) (pda_cons pd_int (pda_cons pd_int pda_nil)))) (pda_cons (pd_callH (h__law_any_plan a ns) hr (by omega) hG rfl tak0 (pda_cons (pd_var 1) (pda_cons pd_int (pda_cons pd_int pda_nil)))) pda_nil)))) pda_nil)))) (psd_cons (psd_par (oi := false) (oj := false) 4 5 rfl nd (pd_ixT (pd_var 3) pd_int) (pd_fz (pd_callH (h__law_jobs a ns) hr (by omega) hG rfl tak0 (pda_cons (pd_ixT (pd_var 3) pd_int) pda_nil)))) (psd_cons (psd_setG 6 nd (pd_callH (h__law_told a ns) hr (by omega) hG rfl tak0 (pda_cons pd_int (pda_cons (pd_var 3) (pda_cons pd_non pda_nil))))) (psd_cons (psd_if (pdt_co (oc_ne hr) (pd_repr hr hG B.repr rfl (pd_own 6)) (pd_repr hr hG B.repr rfl (pd_var 5))) (psd_one (psd_ret pd_bl)) psd_nil) (psd_cons (psd_app 6 (pd_tup (pda_cons pd_int (pda_cons pd_int pda_nil)))) (psd_cons (psd_if (pdt_co (oc_ne hr) (pd_repr hr hG B.repr rfl (pd_callH (h__law_told a ns) hr (by omega) hG rfl tak0 (pda_cons pd_int (pda_cons (pd_var 3) (pda_cons pd_non pda_nil))))) (pd_repr hr hG B.repr rfl (pd_var 5))) (psd_one (psd_ret pd_bl)) psd_nil) (psd_cons (psd_for owns_cx rfl (pid_r2 rfl B.range (pd_neg pd_int) pd_int) (pgd_nm 7 nd) (psd_one (psd_for owns_cx rfl (pid_r2 rfl B.range (pd_neg pd_int) pd_int) (pgd_nm 8 nd) (psd_one (psd_if (pdt_co (oc_ne hr) (pd_repr hr hG B.repr rfl (pd_callH (h__law_told a ns) hr (by omega) hG rfl tak0 (pda_cons pd_int (pda_cons (pd_var 3) (pda_cons (pd_tup (pda_cons (pd_var 7) (pda_cons (pd_var 8) pda_nil))) pda_nil))))) (pd_repr hr hG B.repr rfl (pd_co (oc_in hr) (pd_tup (pda_cons (pd_var 7) (pda_cons (pd_var 8) pda_nil))) (pd_var 5)))) (psd_one (psd_ret pd_bl)) psd_nil))))) (psd_cons (psd_set 9 nd (pd_fz (pd_lst (pda_cons pd_non (pda_cons pd_int (pda_cons (pd_tup pda_nil) (pda_cons (pd_tup (pda_cons pd_int pda_nil)) (pda_cons (pd_tup (pda_cons pd_int (pda_cons pd_int (pda_cons pd_int pda_nil)))) (pda_cons (pd_fz (pd_lst (pda_cons pd_int (pda_cons pd_int pda_nil)))) (pda_cons (pd_tup (pda_cons pd_bl (pda_cons pd_int pda_nil))) (pda_cons (pd_tup (pda_cons pd_int (pda_cons pd_bl pda_nil))) (pda_cons (pd_tup (pda_cons pd_str (pda_cons pd_int pda_nil))) (pda_cons (pd_tup (pda_cons pd_int (pda_cons pd_non pda_nil))) (pda_cons (pd_tup (pda_cons (pd_tup (pda_cons pd_int (pda_cons pd_int pda_nil))) pda_nil)) pda_nil)))))))))))))) (psd_cons (psd_for owns_cx rfl (pid_list (pd_fz (pd_bin ob_catL (pd_var 9) (pd_lst (pda_cons pd_str (pda_cons (pd_tup (pda_cons pd_int (pda_cons (pd_bin ob_pow pd_int pd_int) pda_nil))) (pda_cons (pd_tup (pda_cons (pd_bin ob_pow pd_int pd_int) (pda_cons pd_int pda_nil))) (pda_cons (pd_tup (pda_cons (pd_fz (pd_lst (pda_cons pd_int pda_nil))) (pda_cons pd_int pda_nil))) pda_nil)))))))) (pgd_nm 10 nd) (psd_one (psd_if (pdt_co (oc_ne hr) (pd_repr hr hG B.repr rfl (pd_callH (h__law_told a ns) hr (by omega) hG rfl tak0 (pda_cons pd_int (pda_cons (pd_var 3) (pda_cons (pd_var 10) pda_nil))))) pd_str) (psd_one (psd_ret pd_bl)) psd_nil))) (psd_cons (psd_set 11 nd (pd_callH (h__law_bad_plan a ns) hr (by omega) hG rfl tak0 (pda_cons (pd_var 1) (pda_cons (pd_var 3) pda_nil)))) (psd_cons (psd_if (pdt_co (oc_ne hr) (pd_lst (pda_cons (pd_gm (pd_callH (h__law_told a ns) hr (by omega) hG rfl tak0 (pda_cons pd_int (pda_cons (pd_var 11) (pda_cons pd_non pda_nil))))) (pda_cons (pd_gm (pd_callH (h__law_told a ns) hr (by omega) hG rfl tak0 (pda_cons pd_int (pda_cons (pd_var 11) (pda_cons (pd_tup (pda_cons pd_int (pda_cons pd_int pda_nil))) pda_nil))))) (pda_cons (pd_gm (pd_callH (h__law_told a ns) hr (by omega) hG rfl tak0 (pda_cons pd_int (pda_cons (pd_var 11) (pda_cons pd_non pda_nil))))) pda_nil)))) (pd_repL (pd_lst (pda_cons pd_str pda_nil)) pd_int)) (psd_one (psd_ret pd_bl)) psd_nil) (psd_cons (psd_set 12 nd (pd_fz (pd_bin ob_catL (pd_var 5) (pd_lst (pda_cons (pd_tup (pda_cons (pd_len B.len rfl (pd_var 4)) (pda_cons pd_int pda_nil))) (pda_cons (pd_tup (pda_cons (pd_len B.len rfl (pd_var 4)) (pda_cons pd_int pda_nil))) pda_nil)))))) (psd_one (psd_if (pdw_pt (pdw_and (pdt_co oc_lt (pd_len B.len rfl (pd_var 4)) pd_int) (pdw_and1 (pdt_co (oc_ne hr) (pd_callH (h__law_told a ns) hr (by omega) hG rfl tak0 (pda_cons pd_int (pda_cons (pd_tup (pda_cons (pd_bin ob_catT (pd_var 4) (pd_tup (pda_cons pd_int pda_nil))) (pda_cons (pd_tup pda_nil) pda_nil))) (pda_cons pd_non pda_nil)))) (pd_var 12))))) (psd_one (psd_ret pd_bl)) psd_nil))))))))))))))) (psd_one (psd_ret pd_bl)))) hm

theorem ok_init_UnknownJob {P : Program} {w : World} {K : PySem.W.Frag} {mg : Str → Option Value} {base : Heap} {C fI D : Addr} {fd : FuncData} (hB : baseB K D = true) (mB : mg "PlanError" = some (.ref D)) (h : initB K C fI "job" = true) (F : L2.Fun K "__init__" "UnknownJob.__init__" s_init_UnknownJob fI fd) (hb : Binds K fd ["self", "job"] []) :
    ExcI P w K mg base 1 C "job" :=
  have sc : FnScope ["self", "job"] ["self", "job"] (defScope s_init_UnknownJob) := ⟨rfl, rfl, rfl, by decide +kernel, rfl, by decide +kernel, by decide +kernel⟩
  excI_of (k := 0) (msg := "not a job of the plan") h F hb sc fun cdv A outer s H E => pss_cons (ps_expr (pe_baseinit rfl mB (baseB_ok hB).1 (baseB_ok hB).2 (pa_cons (pe_var rfl (.inl rfl)) (pa_cons pe_str pa_nil)))) (pss_cons (ps_ost (pe_var rfl (.inl rfl)) (pe_var rfl (.inl rfl))) pss_nil)
theorem ok_init_UnknownWait {P : Program} {w : World} {K : PySem.W.Frag} {mg : Str → Option Value} {base : Heap} {C fI D : Addr} {fd : FuncData} (hB : baseB K D = true) (mB : mg "PlanError" = some (.ref D)) (h : initB K C fI "wait" = true) (F : L2.Fun K "__init__" "UnknownWait.__init__" s_init_UnknownWait fI fd) (hb : Binds K fd ["self", "wait"] []) :
    ExcI P w K mg base 1 C "wait" :=
  have sc : FnScope ["self", "wait"] ["self", "wait"] (defScope s_init_UnknownWait) := ⟨rfl, rfl, rfl, by decide +kernel, rfl, by decide +kernel, by decide +kernel⟩
  excI_of (k := 0) (msg := "not a wait of the plan") h F hb sc fun cdv A outer s H E => pss_cons (ps_expr (pe_baseinit rfl mB (baseB_ok hB).1 (baseB_ok hB).2 (pa_cons (pe_var rfl (.inl rfl)) (pa_cons pe_str pa_nil)))) (pss_cons (ps_ost (pe_var rfl (.inl rfl)) (pe_var rfl (.inl rfl))) pss_nil)
theorem ok_init_WaitTaken {P : Program} {w : World} {K : PySem.W.Frag} {mg : Str → Option Value} {base : Heap} {C fI D : Addr} {fd : FuncData} (hB : baseB K D = true) (mB : mg "PlanError" = some (.ref D)) (h : initB K C fI "wait" = true) (F : L2.Fun K "__init__" "WaitTaken.__init__" s_init_WaitTaken fI fd) (hb : Binds K fd ["self", "wait"] []) :
    ExcI P w K mg base 1 C "wait" :=
  have sc : FnScope ["self", "wait"] ["self", "wait"] (defScope s_init_WaitTaken) := ⟨rfl, rfl, rfl, by decide +kernel, rfl, by decide +kernel, by decide +kernel⟩
  excI_of (k := 0) (msg := "the plan has this wait already") h F hb sc fun cdv A outer s H E => pss_cons (ps_expr (pe_baseinit rfl mB (baseB_ok hB).1 (baseB_ok hB).2 (pa_cons (pe_var rfl (.inl rfl)) (pa_cons pe_str pa_nil)))) (pss_cons (ps_ost (pe_var rfl (.inl rfl)) (pe_var rfl (.inl rfl))) pss_nil)
theorem ok_init_InvalidQueue {P : Program} {w : World} {K : PySem.W.Frag} {mg : Str → Option Value} {base : Heap} {C fI D : Addr} {fd : FuncData} (hB : baseB K D = true) (mB : mg "PlanError" = some (.ref D)) (h : initB K C fI "queue" = true) (F : L2.Fun K "__init__" "InvalidQueue.__init__" s_init_InvalidQueue fI fd) (hb : Binds K fd ["self", "queue"] []) :
    ExcI P w K mg base 1 C "queue" :=
  have sc : FnScope ["self", "queue"] ["self", "queue"] (defScope s_init_InvalidQueue) := ⟨rfl, rfl, rfl, by decide +kernel, rfl, by decide +kernel, by decide +kernel⟩
  excI_of (k := 0) (msg := "not the number of a queue") h F hb sc fun cdv A outer s H E => pss_cons (ps_expr (pe_baseinit rfl mB (baseB_ok hB).1 (baseB_ok hB).2 (pa_cons (pe_var rfl (.inl rfl)) (pa_cons pe_str pa_nil)))) (pss_cons (ps_ost (pe_var rfl (.inl rfl)) (pe_var rfl (.inl rfl))) pss_nil)
theorem ok_init_Ended {P : Program} {w : World} {K : PySem.W.Frag} {mg : Str → Option Value} {base : Heap} {C fI D : Addr} {fd : FuncData} (hB : baseB K D = true) (mB : mg "PlanError" = some (.ref D)) (h : initB K C fI "queue" = true) (F : L2.Fun K "__init__" "Ended.__init__" s_init_Ended fI fd) (hb : Binds K fd ["self", "queue"] []) :
    ExcI P w K mg base 1 C "queue" :=
  have sc : FnScope ["self", "queue"] ["self", "queue"] (defScope s_init_Ended) := ⟨rfl, rfl, rfl, by decide +kernel, rfl, by decide +kernel, by decide +kernel⟩
  excI_of (k := 0) (msg := "the queue has no more steps") h F hb sc fun cdv A outer s H E => pss_cons (ps_expr (pe_baseinit rfl mB (baseB_ok hB).1 (baseB_ok hB).2 (pa_cons (pe_var rfl (.inl rfl)) (pa_cons pe_str pa_nil)))) (pss_cons (ps_ost (pe_var rfl (.inl rfl)) (pe_var rfl (.inl rfl))) pss_nil)
theorem ok_init_Blocked {P : Program} {w : World} {K : PySem.W.Frag} {mg : Str → Option Value} {base : Heap} {C fI D : Addr} {fd : FuncData} (hB : baseB K D = true) (mB : mg "PlanError" = some (.ref D)) (h : initB K C fI "queue" = true) (F : L2.Fun K "__init__" "Blocked.__init__" s_init_Blocked fI fd) (hb : Binds K fd ["self", "queue"] []) :
    ExcI P w K mg base 1 C "queue" :=
  have sc : FnScope ["self", "queue"] ["self", "queue"] (defScope s_init_Blocked) := ⟨rfl, rfl, rfl, by decide +kernel, rfl, by decide +kernel, by decide +kernel⟩
  excI_of (k := 0) (msg := "the queue is blocked") h F hb sc fun cdv A outer s H E => pss_cons (ps_expr (pe_baseinit rfl mB (baseB_ok hB).1 (baseB_ok hB).2 (pa_cons (pe_var rfl (.inl rfl)) (pa_cons pe_str pa_nil)))) (pss_cons (ps_ost (pe_var rfl (.inl rfl)) (pe_var rfl (.inl rfl))) pss_nil)
theorem ok_init_FlagUp {P : Program} {w : World} {K : PySem.W.Frag} {mg : Str → Option Value} {base : Heap} {C fI D : Addr} {fd : FuncData} (hB : baseB K D = true) (mB : mg "PlanError" = some (.ref D)) (h : initB K C fI "flag" = true) (F : L2.Fun K "__init__" "FlagUp.__init__" s_init_FlagUp fI fd) (hb : Binds K fd ["self", "flag"] []) :
    ExcI P w K mg base 1 C "flag" :=
  have sc : FnScope ["self", "flag"] ["self", "flag"] (defScope s_init_FlagUp) := ⟨rfl, rfl, rfl, by decide +kernel, rfl, by decide +kernel, by decide +kernel⟩
  excI_of (k := 0) (msg := "the flag is up already") h F hb sc fun cdv A outer s H E => pss_cons (ps_expr (pe_baseinit rfl mB (baseB_ok hB).1 (baseB_ok hB).2 (pa_cons (pe_var rfl (.inl rfl)) (pa_cons pe_str pa_nil)))) (pss_cons (ps_ost (pe_var rfl (.inl rfl)) (pe_var rfl (.inl rfl))) pss_nil)
theorem ok_init_NotReady {P : Program} {w : World} {K : PySem.W.Frag} {mg : Str → Option Value} {base : Heap} {C fI D : Addr} {fd : FuncData} (hB : baseB K D = true) (mB : mg "PlanError" = some (.ref D)) (h : initB K C fI "job" = true) (F : L2.Fun K "__init__" "NotReady.__init__" s_init_NotReady fI fd) (hb : Binds K fd ["self", "job"] []) :
    ExcI P w K mg base 1 C "job" :=
  have sc : FnScope ["self", "job"] ["self", "job"] (defScope s_init_NotReady) := ⟨rfl, rfl, rfl, by decide +kernel, rfl, by decide +kernel, by decide +kernel⟩
  excI_of (k := 0) (msg := "the job is not ready") h F hb sc fun cdv A outer s H E => pss_cons (ps_expr (pe_baseinit rfl mB (baseB_ok hB).1 (baseB_ok hB).2 (pa_cons (pe_var rfl (.inl rfl)) (pa_cons pe_str pa_nil)))) (pss_cons (ps_ost (pe_var rfl (.inl rfl)) (pe_var rfl (.inl rfl))) pss_nil)
theorem ok_init_Finished {P : Program} {w : World} {K : PySem.W.Frag} {mg : Str → Option Value} {base : Heap} {C fI D : Addr} {fd : FuncData} (hB : baseB K D = true) (mB : mg "PlanError" = some (.ref D)) (h : initB K C fI "job" = true) (F : L2.Fun K "__init__" "Finished.__init__" s_init_Finished fI fd) (hb : Binds K fd ["self", "job"] []) :
    ExcI P w K mg base 1 C "job" :=
  have sc : FnScope ["self", "job"] ["self", "job"] (defScope s_init_Finished) := ⟨rfl, rfl, rfl, by decide +kernel, rfl, by decide +kernel, by decide +kernel⟩
  excI_of (k := 0) (msg := "the job is finished already") h F hb sc fun cdv A outer s H E => pss_cons (ps_expr (pe_baseinit rfl mB (baseB_ok hB).1 (baseB_ok hB).2 (pa_cons (pe_var rfl (.inl rfl)) (pa_cons pe_str pa_nil)))) (pss_cons (ps_ost (pe_var rfl (.inl rfl)) (pe_var rfl (.inl rfl))) pss_nil)
theorem ok_init_Full {P : Program} {w : World} {K : PySem.W.Frag} {mg : Str → Option Value} {base : Heap} {C fI D : Addr} {fd : FuncData} (hB : baseB K D = true) (mB : mg "PlanError" = some (.ref D)) (h : initB K C fI "limit" = true) (F : L2.Fun K "__init__" "Full.__init__" s_init_Full fI fd) (hb : Binds K fd ["self", "limit"] []) :
    ExcI P w K mg base 1 C "limit" :=
  have sc : FnScope ["self", "limit"] ["self", "limit"] (defScope s_init_Full) := ⟨rfl, rfl, rfl, by decide +kernel, rfl, by decide +kernel, by decide +kernel⟩
  excI_of (k := 0) (msg := "no more marks are allowed") h F hb sc fun cdv A outer s H E => pss_cons (ps_expr (pe_baseinit rfl mB (baseB_ok hB).1 (baseB_ok hB).2 (pa_cons (pe_var rfl (.inl rfl)) (pa_cons pe_str pa_nil)))) (pss_cons (ps_ost (pe_var rfl (.inl rfl)) (pe_var rfl (.inl rfl))) pss_nil)
theorem ok_init_InvalidMark {P : Program} {w : World} {K : PySem.W.Frag} {mg : Str → Option Value} {base : Heap} {C fI D : Addr} {fd : FuncData} (hB : baseB K D = true) (mB : mg "PlanError" = some (.ref D)) (h : initB K C fI "number" = true) (F : L2.Fun K "__init__" "InvalidMark.__init__" s_init_InvalidMark fI fd) (hb : Binds K fd ["self", "number"] []) :
    ExcI P w K mg base 1 C "number" :=
  have sc : FnScope ["self", "number"] ["self", "number"] (defScope s_init_InvalidMark) := ⟨rfl, rfl, rfl, by decide +kernel, rfl, by decide +kernel, by decide +kernel⟩
  excI_of (k := 0) (msg := "not the number of a mark") h F hb sc fun cdv A outer s H E => pss_cons (ps_expr (pe_baseinit rfl mB (baseB_ok hB).1 (baseB_ok hB).2 (pa_cons (pe_var rfl (.inl rfl)) (pa_cons pe_str pa_nil)))) (pss_cons (ps_ost (pe_var rfl (.inl rfl)) (pe_var rfl (.inl rfl))) pss_nil)

theorem zip_at {as : List Addr} {i : Nat} (h : i < as.length) : (as[i], i) ∈ as.zipIdx := by
  rw [List.mem_zipIdx_iff_getElem?]
  simp [h]
theorem xfK_ok {K : PySem.W.Frag} (h : xfK K = true) : ErrF K (cl K) ∧ ErrP K (cl K) := by
  unfold xfK at h
  dsimp only at h
  generalize has : (List.range 23).map (cl K) = as at h
  obtain ⟨h1, h⟩ := Bool.and_eq_true_iff.mp h
  obtain ⟨h2, h⟩ := Bool.and_eq_true_iff.mp h
  obtain ⟨h3, h4⟩ := Bool.and_eq_true_iff.mp h
  have hl : as.length = 23 := by rw [← has, List.length_map, List.length_range]
  have at_ : ∀ i (hi : i < 23), as[i]'(by omega) = cl K i := fun i hi => by
    subst has
    simp
  have mem : ∀ i, i < 23 → cl K i ∈ as := fun i hi => by
    rw [← at_ i hi]
    exact List.getElem_mem _
  have zip : ∀ i, i < 23 → (cl K i, i) ∈ as.zipIdx := fun i hi => by
    rw [← at_ i hi]
    exact zip_at _
  have z3 : ∀ i, i < 23 → (decide (PySem.W.kitOne K (.ref (cl K i)) (.type "ValueError") = some true) && decide (PySem.W.exmOne K (.ref (cl K i)) (.ref (cl K 22)) = some true)) = true := fun i hi => List.all_eq_true.mp h3 _ (mem i hi)
  have z4 : ∀ i, 11 ≤ i → i < 22 → (xfB K (cl K i) && initB K (cl K i) (He.ma K (cl K i) "__init__") (fld i)) = true := fun i a b => by
    have z := List.all_eq_true.mp h4 _ (zip i (by omega))
    dsimp only at z
    rw [decide_eq_true a, decide_eq_true b] at z
    exact z
  refine ⟨⟨fun i hi => excCB_ok (List.all_eq_true.mp h1 _ (mem i hi)), fun i j hi hj => ?_, fun i hi => of_decide_eq_true (Bool.and_eq_true_iff.mp (z3 i hi)).1, fun i a b => ?_⟩, ⟨fun i hi => of_decide_eq_true (Bool.and_eq_true_iff.mp (z3 i hi)).2⟩⟩
  · exact of_decide_eq_true (List.all_eq_true.mp (List.all_eq_true.mp h2 _ (zip i hi)) _ (zip j hj))
  · obtain ⟨g1, g2⟩ := Bool.and_eq_true_iff.mp (z4 i a b)
    exact ⟨xfB_ok g1, (initB_ok g2).2.1⟩

abbrev TC (K : PySem.W.Frag) : List (Addr × Addr) := TN.map fun x => (cdA K x, tbA K x)
abbrev TS (K : PySem.W.Frag) : List Addr := (TC K).map (·.2)
abbrev l : PySem.W.OpenLaw := PySem.Challenge.rw_flagplans_k02_jobs
theorem hbL (K : PySem.W.Frag) (f : Addr) (fd : FuncData) (F : L2.Fun K "law" "law" s_law f fd) (s : Shared) (u : Value) : BindsTo s fd ⟨[u], []⟩ [("script", u)] := by
  obtain ⟨oc, od, kV, doc, pm, an, cdv, ct, osl, rfl, lk, hcd⟩ := F.ex
  exact .of_eq rfl
theorem facts {w : World} {K : PySem.W.Frag} {h : Heap} {mg : Str → Option Value} {f : Addr} (KX : K.In h) (G : h.Ns mainGlobals mg) (hfa : mg "law" = some (.ref f)) (c : He.SaysD factsA factsD K) (xf : xfK K = true) (xt : ∀ x ∈ TN, TabH h K x) :
    LawHas l w K 11 "script" mg f h := by
  have D_is_int : DefAt K mg "is_int" s_is_int ["value"] := def_at KX G c 0 0 rfl rfl (fun _ _ _ _ _ _ us hl => match us, hl with | [_], _ => rfl)
  have D_is_pair : DefAt K mg "is_pair" s_is_pair ["value"] := def_at KX G c 1 1 rfl rfl (fun _ _ _ _ _ _ us hl => match us, hl with | [_], _ => rfl)
  have D_is_below : DefAt K mg "is_below" s_is_below ["value", "limit"] := def_at KX G c 2 2 rfl rfl (fun _ _ _ _ _ _ us hl => match us, hl with | [_, _], _ => rfl)
  have D_are_sizes : DefAtC K mg "are_sizes" s_are_sizes ["value"] := def_atC KX G c 3 3 rfl rfl (fun _ _ _ _ _ _ us hl => match us, hl with | [_], _ => rfl)
  have D_has_job : DefAt K mg "has_job" s_has_job ["sizes", "value"] := def_at KX G c 4 4 rfl rfl (fun _ _ _ _ _ _ us hl => match us, hl with | [_, _], _ => rfl)
  have D_can_wait : DefAt K mg "can_wait" s_can_wait ["sizes", "value"] := def_at KX G c 5 5 rfl rfl (fun _ _ _ _ _ _ us hl => match us, hl with | [_, _], _ => rfl)
  have D_are_waits : DefAtC K mg "are_waits" s_are_waits ["sizes", "value"] := def_atC KX G c 6 6 rfl rfl (fun _ _ _ _ _ _ us hl => match us, hl with | [_, _], _ => rfl)
  have D_is_plan : DefAt K mg "is_plan" s_is_plan ["value"] := def_at KX G c 7 7 rfl rfl (fun _ _ _ _ _ _ us hl => match us, hl with | [_], _ => rfl)
  have D_check_plan : DefAt K mg "check_plan" s_check_plan ["value"] := def_at KX G c 8 8 rfl rfl (fun _ _ _ _ _ _ us hl => match us, hl with | [_], _ => rfl)
  have D_jobs_of : DefAt K mg "jobs_of" s_jobs_of ["sizes"] := def_at KX G c 9 9 rfl rfl (fun _ _ _ _ _ _ us hl => match us, hl with | [_], _ => rfl)
  have D_jobs : DefAt K mg "jobs" s_jobs ["plan"] := def_at KX G c 10 10 rfl rfl (fun _ _ _ _ _ _ us hl => match us, hl with | [_], _ => rfl)
  have D_is_job : DefAt K mg "is_job" s_is_job ["plan", "value"] := def_at KX G c 11 11 rfl rfl (fun _ _ _ _ _ _ us hl => match us, hl with | [_, _], _ => rfl)
  have D__law_spread : DefAt K mg "_law_spread" s__law_spread ["cell", "at"] := def_at KX G c 12 12 rfl rfl (fun _ _ _ _ _ _ us hl => match us, hl with | [_, _], _ => rfl)
  have D__law_open : DefAt K mg "_law_open" s__law_open ["script"] := def_at KX G c 13 13 rfl rfl (fun _ _ _ _ _ _ us hl => match us, hl with | [_], _ => rfl)
  have D__law_anew : DefAt K mg "_law_anew" s__law_anew ["pen"] := def_at KX G c 14 14 rfl rfl (fun _ _ _ _ _ _ us hl => match us, hl with | [_], _ => rfl)
  have D__law_take : DefAt K mg "_law_take" s__law_take ["pen", "many"] := def_at KX G c 15 15 rfl rfl (fun _ _ _ _ _ _ us hl => match us, hl with | [_, _], _ => rfl)
  have D__law_one : DefAt K mg "_law_one" s__law_one ["pen", "some"] := def_at KX G c 16 16 rfl rfl (fun _ _ _ _ _ _ us hl => match us, hl with | [_, _], _ => rfl)
  have D__law_jobs : DefAt K mg "_law_jobs" s__law_jobs ["sizes"] := def_at KX G c 17 17 rfl rfl (fun _ _ _ _ _ _ us hl => match us, hl with | [_], _ => rfl)
  have D__law_sizes : DefAt K mg "_law_sizes" s__law_sizes ["pen", "most"] := def_at KX G c 18 18 rfl rfl (fun _ _ _ _ _ _ us hl => match us, hl with | [_, _], _ => rfl)
  have D__law_plan : DefAt K mg "_law_plan" s__law_plan ["pen", "most", "many"] := def_at KX G c 19 19 rfl rfl (fun _ _ _ _ _ _ us hl => match us, hl with | [_, _, _], _ => rfl)
  have D__law_any_plan : DefAt K mg "_law_any_plan" s__law_any_plan ["pen", "most", "many"] := def_at KX G c 20 20 rfl rfl (fun _ _ _ _ _ _ us hl => match us, hl with | [_, _, _], _ => rfl)
  have D__law_kept : DefAt K mg "_law_kept" s__law_kept ["caught", "word"] := def_at KX G c 21 21 rfl rfl (fun _ _ _ _ _ _ us hl => match us, hl with | [_, _], _ => rfl)
  have D__law_refusal : DefAt K mg "_law_refusal" s__law_refusal ["caught"] := def_at KX G c 22 22 rfl rfl (fun _ _ _ _ _ _ us hl => match us, hl with | [_], _ => rfl)
  have D__law_bad_plan : DefAt K mg "_law_bad_plan" s__law_bad_plan ["pen", "plan"] := def_at KX G c 23 23 rfl rfl (fun _ _ _ _ _ _ us hl => match us, hl with | [_, _], _ => rfl)
  have D__law_told : DefAt K mg "_law_told" s__law_told ["sort", "plan", "value"] := def_at KX G c 24 24 rfl rfl (fun _ _ _ _ _ _ us hl => match us, hl with | [_, _, _], _ => rfl)
  have D_law : DefAt K mg "law" s_law ["script"] := def_at KX G c 25 25 rfl rfl (fun _ _ _ _ _ _ us hl => match us, hl with | [_], _ => rfl)
  have m_InvalidPlan : mg "InvalidPlan" = some (.ref (cl K 0)) := He.glo_ok KX G (c.fact 26 rfl)
  have m_Unsound : mg "Unsound" = some (.ref (cl K 1)) := He.glo_ok KX G (c.fact 27 rfl)
  have m_InvalidMoment : mg "InvalidMoment" = some (.ref (cl K 2)) := He.glo_ok KX G (c.fact 28 rfl)
  have m_InvalidFlags : mg "InvalidFlags" = some (.ref (cl K 3)) := He.glo_ok KX G (c.fact 29 rfl)
  have m_InvalidChoices : mg "InvalidChoices" = some (.ref (cl K 4)) := He.glo_ok KX G (c.fact 30 rfl)
  have m_InvalidNumber : mg "InvalidNumber" = some (.ref (cl K 5)) := He.glo_ok KX G (c.fact 31 rfl)
  have m_SameQueue : mg "SameQueue" = some (.ref (cl K 6)) := He.glo_ok KX G (c.fact 32 rfl)
  have m_RingMade : mg "RingMade" = some (.ref (cl K 7)) := He.glo_ok KX G (c.fact 33 rfl)
  have m_TooMany : mg "TooMany" = some (.ref (cl K 8)) := He.glo_ok KX G (c.fact 34 rfl)
  have m_NothingFinished : mg "NothingFinished" = some (.ref (cl K 9)) := He.glo_ok KX G (c.fact 35 rfl)
  have m_NotACertificate : mg "NotACertificate" = some (.ref (cl K 10)) := He.glo_ok KX G (c.fact 36 rfl)
  have m_UnknownJob : mg "UnknownJob" = some (.ref (cl K 11)) := He.glo_ok KX G (c.fact 37 rfl)
  have m_UnknownWait : mg "UnknownWait" = some (.ref (cl K 12)) := He.glo_ok KX G (c.fact 38 rfl)
  have m_WaitTaken : mg "WaitTaken" = some (.ref (cl K 13)) := He.glo_ok KX G (c.fact 39 rfl)
  have m_InvalidQueue : mg "InvalidQueue" = some (.ref (cl K 14)) := He.glo_ok KX G (c.fact 40 rfl)
  have m_Ended : mg "Ended" = some (.ref (cl K 15)) := He.glo_ok KX G (c.fact 41 rfl)
  have m_Blocked : mg "Blocked" = some (.ref (cl K 16)) := He.glo_ok KX G (c.fact 42 rfl)
  have m_FlagUp : mg "FlagUp" = some (.ref (cl K 17)) := He.glo_ok KX G (c.fact 43 rfl)
  have m_NotReady : mg "NotReady" = some (.ref (cl K 18)) := He.glo_ok KX G (c.fact 44 rfl)
  have m_Finished : mg "Finished" = some (.ref (cl K 19)) := He.glo_ok KX G (c.fact 45 rfl)
  have m_Full : mg "Full" = some (.ref (cl K 20)) := He.glo_ok KX G (c.fact 46 rfl)
  have m_InvalidMark : mg "InvalidMark" = some (.ref (cl K 21)) := He.glo_ok KX G (c.fact 47 rfl)
  have m_PlanError : mg "PlanError" = some (.ref (cl K 22)) := He.glo_ok KX G (c.fact 48 rfl)
  obtain ⟨o_MOST_QUEUES, m_MOST_QUEUES⟩ := He.int_ok KX G (c.fact 69 rfl)
  obtain ⟨o_MOST_PLACES, m_MOST_PLACES⟩ := He.int_ok KX G (c.fact 70 rfl)
  obtain ⟨o_MOST_WAITS, m_MOST_WAITS⟩ := He.int_ok KX G (c.fact 71 rfl)
  have B : BltN mg := ⟨He.free_ok KX G (c.fact 49 rfl), He.free_ok KX G (c.fact 50 rfl), He.free_ok KX G (c.fact 51 rfl), He.free_ok KX G (c.fact 52 rfl), He.free_ok KX G (c.fact 53 rfl), He.free_ok KX G (c.fact 54 rfl), He.free_ok KX G (c.fact 55 rfl), He.free_ok KX G (c.fact 56 rfl), He.free_ok KX G (c.fact 57 rfl), He.free_ok KX G (c.fact 58 rfl), He.free_ok KX G (c.fact 59 rfl), He.free_ok KX G (c.fact 60 rfl), He.free_ok KX G (c.fact 61 rfl), He.free_ok KX G (c.fact 62 rfl), He.free_ok KX G (c.fact 63 rfl), He.free_ok KX G (c.fact 64 rfl), He.free_ok KX G (c.fact 65 rfl), He.free_ok KX G (c.fact 66 rfl), He.free_ok KX G (c.fact 67 rfl)⟩
  have x_InvalidPlan : Exc0 K (cl K 0) := exc0_of c 68 rfl
  obtain ⟨EF, EP⟩ := xfK_ok xf
  obtain ⟨f0, fd0, F0, hm0, kp0, hb0⟩ := D_law
  have ef : f0 = f := by
    have z := hm0.symm.trans hfa
    cases z
    rfl
  subst ef
  refine ⟨fd0, TC K, tabs_of KX xt, fun s u => ?_, fun base KB GB TB => ?_⟩
  · exact hbL K f0 fd0 F0 s u
  · have h_is_int : ∀ pn : Pw, pn.tabs = TS K → Has l.prog w K mg base CX0 1 "is_int" ["value"] (spD 1 pn K .m (tfIsInt)) := fun pn hp => (D_is_int.has fun f fd F => ok_is_int (pn := pn) (k := 0) B F).wk (is_int_ok)
    have h_is_pair : ∀ pn : Pw, pn.tabs = TS K → Has l.prog w K mg base CX0 1 "is_pair" ["value"] (spD 1 pn K .m (tfIsPair)) := fun pn hp => (D_is_pair.has fun f fd F => ok_is_pair (pn := pn) (k := 0) B F).wk (is_pair_ok)
    have h_is_below : ∀ pn : Pw, pn.tabs = TS K → Has l.prog w K mg base CX0 2 "is_below" ["value", "limit"] (spD 2 pn K .m (tfIsBelow)) := fun pn hp => (D_is_below.has fun f fd F => ok_is_below (pn := pn) (k := 1) B (h_is_int pn hp) (by omega) F).wk (is_below_ok)
    have T_are_sizes : TabH h K "are_sizes" := xt "are_sizes" (List.mem_of_getElem? (i := 0) rfl)
    have h_are_sizes : ∀ pn : Pw, pn.tabs = TS K → Has l.prog w K mg base CX0 4 "are_sizes" ["value"] (spD 1 pn K .m (tfAreSizes)) := fun pn hp => (D_are_sizes.has T_are_sizes fun fd F hc => ok_are_sizes (pn := pn) (k := 2) B m_MOST_QUEUES m_MOST_PLACES (h_is_below pn hp) (by omega) F hc (by rw [hp]; exact List.mem_of_getElem? (i := 0) rfl) (TB (cdA K "are_sizes", tbA K "are_sizes") (List.mem_of_getElem? (i := 0) rfl))).wk (are_sizes_ok)
    have h_has_job : ∀ pn : Pw, pn.tabs = TS K → Has l.prog w K mg base CX0 3 "has_job" ["sizes", "value"] (spD 2 pn K .m (tfHasJob)) := fun pn hp => (D_has_job.has fun f fd F => ok_has_job (pn := pn) (k := 2) B (h_is_pair pn hp) (by omega) (h_is_below pn hp) (by omega) F).wk (has_job_ok)
    have h_can_wait : ∀ pn : Pw, pn.tabs = TS K → Has l.prog w K mg base CX0 4 "can_wait" ["sizes", "value"] (spD 2 pn K .m (tfCanWait)) := fun pn hp => (D_can_wait.has fun f fd F => ok_can_wait (pn := pn) (k := 3) B (h_is_pair pn hp) (by omega) (h_has_job pn hp) (by omega) F).wk (can_wait_ok)
    have T_are_waits : TabH h K "are_waits" := xt "are_waits" (List.mem_of_getElem? (i := 1) rfl)
    have h_are_waits : ∀ pn : Pw, pn.tabs = TS K → Has l.prog w K mg base CX0 6 "are_waits" ["sizes", "value"] (spD 2 pn K .m (tfAreWaits)) := fun pn hp => (D_are_waits.has T_are_waits fun fd F hc => ok_are_waits (pn := pn) (k := 4) B m_MOST_WAITS (h_can_wait pn hp) (by omega) F hc (by rw [hp]; exact List.mem_of_getElem? (i := 1) rfl) (TB (cdA K "are_waits", tbA K "are_waits") (List.mem_of_getElem? (i := 1) rfl))).wk (are_waits_ok)
    have h_is_plan : ∀ pn : Pw, pn.tabs = TS K → Has l.prog w K mg base CX0 7 "is_plan" ["value"] (spD 1 pn K .m (tfIsPlan)) := fun pn hp => (D_is_plan.has fun f fd F => ok_is_plan (pn := pn) (k := 6) B (h_is_pair pn hp) (by omega) (h_are_sizes pn hp) (by omega) (h_are_waits pn hp) (by omega) F).wk (is_plan_ok)
    have h_check_plan : ∀ pn : Pw, pn.tabs = TS K → Has l.prog w K mg base (L2.CX l.prog w) 8 "check_plan" ["value"] (spD 1 pn K .m (tfCheckPlan (cl K 0))) := fun pn hp => (D_check_plan.has fun f fd F => ok_check_plan (pn := pn) (k := 7) B m_InvalidPlan x_InvalidPlan (h_is_plan pn hp) (by omega) F).wk (check_plan_ok _)
    have h_jobs_of : ∀ pn : Pw, pn.tabs = TS K → Has l.prog w K mg base CX0 1 "jobs_of" ["sizes"] (spD 1 pn K .f (tfJobsOf)) := fun pn hp => (D_jobs_of.has fun f fd F => ok_jobs_of (pn := pn) (k := 0) B F).wk (jobs_of_ok)
    have h_jobs : ∀ pn : Pw, pn.tabs = TS K → Has l.prog w K mg base (L2.CX l.prog w) 9 "jobs" ["plan"] (spD 1 pn K .f (tfJobsP (cl K 0))) := fun pn hp => (D_jobs.has fun f fd F => ok_jobs (pn := pn) (k := 8) B (h_check_plan pn hp) (by omega) (h_jobs_of pn hp) (by omega) F).wk (jobs_p_ok _)
    have h_is_job : ∀ pn : Pw, pn.tabs = TS K → Has l.prog w K mg base (L2.CX l.prog w) 9 "is_job" ["plan", "value"] (spD 2 pn K .m (tfIsJob (cl K 0))) := fun pn hp => (D_is_job.has fun f fd F => ok_is_job (pn := pn) (k := 8) B (h_check_plan pn hp) (by omega) (h_has_job pn hp) (by omega) F).wk (is_job_ok _)
    have h__law_spread : ∀ pn : Pw, pn.tabs = TS K → Has l.prog w K mg base CX0 1 "_law_spread" ["cell", "at"] (spD 2 pn K .m (tfSpread)) := fun pn hp => (D__law_spread.has fun f fd F => ok__law_spread (pn := pn) (k := 0) B F).wk (spread_ok)
    have h__law_open : ∀ pn : Pw, pn.tabs = TS K → Has l.prog w K mg base CX0 1 "_law_open" ["script"] (spD 1 pn K .f (tfOpen)) := fun pn hp => (D__law_open.has fun f fd F => ok__law_open (pn := pn) (k := 0) B F).wk (open_ok)
    have h__law_anew : ∀ pn : Pw, pn.tabs = TS K → Has l.prog w K mg base CX0 1 "_law_anew" ["pen"] (spD 1 pn K .m (tfAnew)) := fun pn hp => (D__law_anew.has fun f fd F => ok__law_anew (pn := pn) (k := 0) B F).wk (anew_ok)
    have h__law_take : ∀ pn : Pw, pn.tabs = TS K → Has l.prog w K mg base CX0 2 "_law_take" ["pen", "many"] (spD 2 pn K .m (tfTake)) := fun pn hp => (D__law_take.has fun f fd F => ok__law_take (pn := pn) (k := 1) B (h__law_spread pn hp) (by omega) F).wk (take_ok _)
    have h__law_one : ∀ pn : Pw, pn.tabs = TS K → Has l.prog w K mg base CX0 3 "_law_one" ["pen", "some"] (spD 2 pn K .m (tfOne)) := fun pn hp => (D__law_one.has fun f fd F => ok__law_one (pn := pn) (k := 2) B (h__law_take pn hp) (by omega) F).wk (one_ok)
    have h__law_jobs : ∀ pn : Pw, pn.tabs = TS K → Has l.prog w K mg base CX0 1 "_law_jobs" ["sizes"] (spD 1 pn K .f (tfJobs)) := fun pn hp => (D__law_jobs.has fun f fd F => ok__law_jobs (pn := pn) (k := 0) B F).wk (jobs_ok)
    have h__law_sizes : ∀ pn : Pw, pn.tabs = TS K → Has l.prog w K mg base CX0 3 "_law_sizes" ["pen", "most"] (spD 2 pn K .m (tfSizes)) := fun pn hp => (D__law_sizes.has fun f fd F => ok__law_sizes (pn := pn) (k := 2) B (h__law_take pn hp) (by omega) F).wk (sizes_ok)
    have h__law_plan : ∀ pn : Pw, pn.tabs = TS K → Has l.prog w K mg base CX0 4 "_law_plan" ["pen", "most", "many"] (spD 3 pn K .m (tfPlan)) := fun pn hp => (D__law_plan.has fun f fd F => ok__law_plan (pn := pn) (k := 3) B (h__law_sizes pn hp) (by omega) (h__law_one pn hp) (by omega) (h__law_take pn hp) (by omega) F).wk (plan_ok)
    have h__law_any_plan : ∀ pn : Pw, pn.tabs = TS K → Has l.prog w K mg base CX0 4 "_law_any_plan" ["pen", "most", "many"] (spD 3 pn K .m (tfAnyPlan)) := fun pn hp => (D__law_any_plan.has fun f fd F => ok__law_any_plan (pn := pn) (k := 3) B (h__law_sizes pn hp) (by omega) (h__law_jobs pn hp) (by omega) (h__law_take pn hp) (by omega) (h__law_one pn hp) (by omega) F).wk (any_plan_ok)
    have h__law_kept : ∀ pn : Pw, pn.tabs = TS K → Has l.prog w K mg base CX0 1 "_law_kept" ["caught", "word"] (spD 2 pn K .m (tfKept (cl K))) := fun pn hp => (D__law_kept.has fun f fd F => ok__law_kept (pn := pn) (k := 0) B F).wk (kept_ok EF)
    have h__law_refusal : ∀ pn : Pw, pn.tabs = TS K → Has l.prog w K mg base CX0 2 "_law_refusal" ["caught"] (spD 1 pn K .m (tfRefusal (cl K))) := fun pn hp => (D__law_refusal.has fun f fd F => ok__law_refusal (pn := pn) (k := 1) B m_InvalidPlan m_Unsound m_InvalidMoment m_InvalidFlags m_InvalidChoices m_InvalidNumber m_SameQueue m_RingMade m_TooMany m_NothingFinished m_NotACertificate m_UnknownJob m_UnknownWait m_WaitTaken m_InvalidQueue m_Ended m_Blocked m_FlagUp m_NotReady m_Finished m_Full m_InvalidMark m_PlanError (h__law_kept pn hp) (by omega) F).wk (refusal_ok EF)
    have h__law_bad_plan : ∀ pn : Pw, pn.tabs = TS K → Has l.prog w K mg base CX0 4 "_law_bad_plan" ["pen", "plan"] (spD 2 pn K .m (tfBadA)) := fun pn hp => (D__law_bad_plan.has fun f fd F => ok__law_bad_plan (pn := pn) (k := 3) B (h__law_jobs pn hp) (by omega) (h__law_one pn hp) (by omega) F).wk (bad_plan_ok)
    have h__law_told : ∀ pn : Pw, pn.tabs = TS K → Has l.prog w K mg base CX0 10 "_law_told" ["sort", "plan", "value"] (spD 3 pn K .g (tfTold2)) := fun pn hp => (D__law_told.has fun f fd F => ok__law_told (pn := pn) (k := 9) B m_PlanError (h_jobs pn hp) (by omega) (h_is_job pn hp) (by omega) (h__law_refusal pn hp) (by omega) F).wk (told2_ok EP)
    exact ok_law (k := 10) (tabs := TS K) (t__law_one := fun _ => tfOne) (t__law_anew := fun _ => tfAnew) (t__law_plan := fun _ => tfPlan) (t__law_any_plan := fun _ => tfAnyPlan) (t__law_jobs := fun _ => tfJobs) (t__law_told := fun _ => tfTold2) (t__law_bad_plan := fun _ => tfBadA) B (fun a ns => h__law_one ⟨some a, ns, TS K⟩ rfl) (by omega) (fun a ns => h__law_anew ⟨some a, ns, TS K⟩ rfl) (by omega) (fun a ns => h__law_plan ⟨some a, ns, TS K⟩ rfl) (by omega) (fun a ns => h__law_any_plan ⟨some a, ns, TS K⟩ rfl) (by omega) (fun a ns => h__law_jobs ⟨some a, ns, TS K⟩ rfl) (by omega) (fun a ns => h__law_told ⟨some a, ns, TS K⟩ rfl) (by omega) (fun a ns => h__law_bad_plan ⟨some a, ns, TS K⟩ rfl) (by omega) (h__law_open ⟨none, [], TS K⟩ rfl) (by omega) F0 (law_ok)
end K02

set_option Elab.async false
set_option linter.all false
set_option maxRecDepth 100000
set_option maxHeartbeats 0
open PySem PySem.W PySem.Calls PyProof.Rows
theorem PySem.Challenge.cw_flagplans_k02_jobs_holds : PySem.Challenge.rw_flagplans_k02_jobs.Holds := by
  w_on; o_law
  refine HandSHeadRun.head_any (r := OpenLaw.row PySem.Challenge.rw_flagplans_k02_jobs) (q := view (OpenLaw.row PySem.Challenge.rw_flagplans_k02_jobs).prog [55]) (H := K02.hk) (ob := K02.ob) (M := 12000) (loose := K02.looseN) (d := HandSHeadRun.topDef (OpenLaw.row PySem.Challenge.rw_flagplans_k02_jobs).prog 55) (kwd := []) VD.obW_eq
    (by kernel_rfl) (fun s => by kernel_rfl) K02.run (by kernel_rfl) (by kernel_rfl) (by kernel_rfl) (by rfl) (by first | assumption | decide +kernel) (by decide +kernel) ⟨rfl, rfl, rfl, rfl, rfl, by decide +kernel⟩ ?hw ?hc
  case hw => w_witness2
  case hc =>
    refine VD.walk_ofV (l := PySem.Challenge.rw_flagplans_k02_jobs) (k := 11) (x := "script") rfl (by kernel_rfl) ⟨rfl, by decide, by decide⟩ ?F
    intro w mg fa h Y G hmg0
    obtain ⟨K, KX, c, xf, xt⟩ := Y
    have hmg : mg ("law" : PySem.Str) = some (.ref fa) := by
      have e : (HandSHeadRun.topDef (OpenLaw.row PySem.Challenge.rw_flagplans_k02_jobs).prog 55).name = ("law" : PySem.Str) := by kernel_rfl
      rw [← e]
      exact hmg0
    exact ⟨K, KX, K02.facts KX G hmg c xf xt⟩

