import PyProof.Rows.All
import Wide.All
import OpenK.AllK
import Wide.FinOn
import HandS.ForSpec
import HandS.Gcd
import HandS.IsInst
import HandS.Wide
import HandS.TupAny
import HandS.Deep
import HandS.NoneIn
import HandS.Walk
import HandS.Lambda
import HandS.Text
import HandS.Comp
import HandS.Steps
import HandS.HeadHook1
import HandS.RaiseMore
import HandS.SortInts
import HandS.More
import HandS.ExcInit
import HandS.ExcField
import HandS.ExcOwn
import HandS.WordsExc
import KE.GoesEnum
import HandS.Iter
import HandS.HotCalls
import KE.SortData
import KE.KTupSum
import HandS.DictEq
import HandS.Conv
import KE.SortKeyHeap
import HandS.SortKw
import HandS.Keys
import PyProof.Rows.PlainStore
import HandS.Style
import HandS.FStr
import HandS.Codes
import HandS.ReplaceLit
import HandS.ReplaceList
import HandS.SetFor
import HandS.DictComp
import HandS.Zip
import Flt.RightSqrt
import HandS.ListItems
import KE.DataFind
import HandS.SetKeys
import PyProof.EnumMake
import HandS.ExcIs
import HandS.ExcCtx
import HandS.ExcInitHot
import PyProof.DictFindH
import KE.DataMinMax
import HandS.TryOnly
import KE.DatumOrd
import HandS.EndTab
import HandS.Strs
import HandS.SuiteRaise
import HandS.RaiseFrom
import PyProof.ExcBaseAll.ValueError
import PySem.Challenge.RW_homingtrue_k44_refused_entries_and_books
set_option Elab.async false
set_option linter.all false
set_option maxRecDepth 100000
set_option maxHeartbeats 1000000
namespace SM
open PySem PySem.Spec PyProof.Rows L2
inductive PV where
  | non | bl (b : Bool) | int (i : Int) | str (s : List Nat) | tup (xs : List PV) | ref (n : Nat)
inductive MO where
  | lst (xs : List PV) | frz (xs : List PV) | dct (kvs : List (List Int × PV)) | dck (kvs : List (Int × PV)) | frk (kvs : List (Int × PV)) | dcs (kvs : List (List Nat × PV)) | frs (kvs : List (List Nat × PV))
  | ins (fs : List PV) | tbl (P : Addr) (q : PySem.Str)
abbrev MH := List MO
abbrev Loc := List (Option PV)
inductive R (α : Type) where
  | ok (a : α) (m : MH) | ex (c : String) (fs : List PV) (m : MH) | bad
inductive RS where
  | nx (l : Loc) (m : MH) | rt (x : PV) (m : MH) | bk (l : Loc) (m : MH) | ct (l : Loc) (m : MH) | ex (c : String) (fs : List PV) (l : Loc) (m : MH) | bad
def R.bind {α β : Type} (r : R α) (k : α → MH → R β) : R β := match r with
  | .ok a m => k a m
  | .ex c fs m => .ex c fs m
  | .bad => .bad
/-- the statement's end from an expression's -/
def R.then (l : Loc) (r : R α) (k : α → MH → RS) : RS := match r with
  | .ok a m => k a m
  | .ex c fs m => .ex c fs l m
  | .bad => .bad
def RS.seq (r : RS) (k : Loc → MH → RS) : RS := match r with
  | .nx l m => k l m
  | r => r
abbrev SE := Loc → MH → R PV
abbrev SB := Loc → MH → R Bool
abbrev SA := Loc → MH → R (List PV)
abbrev SS := Loc → MH → RS
section
variable (K : PySem.W.Frag) (H : Hp) (φ : List Addr)
mutual
def RV : PV → V → Prop
  | .non, v => v = .non
  | .bl b, v => v = .bl b
  | .int i, v => v = .int i
  | .str s, v => v = .str ⟨s.toArray⟩
  | .tup xs, v => ∃ a vs, v = .ref a ∧ SqT K H a vs ∧ RVs xs vs
  | .ref n, v => ∃ a, φ[n]? = some a ∧ v = .ref a
def RVs : List PV → List V → Prop
  | [], vs => vs = []
  | x :: xs, vs => ∃ v r, vs = v :: r ∧ RV x v ∧ RVs xs r
end
def SqF (a : Addr) (xs : List V) : Prop := (∃ o, H a = some (.frz o (.lst xs))) ∨
  ∃ (o : Obj) (its : Array Value) (n : Nat), K.lookup a = some o ∧ o.cls = .type "list" ∧ o.dict = none ∧ o.data = .seq its n ∧ its.size ≤ sizeLine ∧ Vals xs its.toList
/-- entries of a dict -/
def RKs {κ κ' : Type} (enc : κ → κ') : List (κ × PV) → List (κ' × V) → Prop
  | [], ws => ws = []
  | p :: r, ws => ∃ v t, ws = (enc p.1, v) :: t ∧ RV K H φ p.2 v ∧ RKs enc r t
def encT (k : List Int) : List Key := k.map Sum.inl
def encK (k : Int) : Key := Sum.inl k
def encS (k : List Nat) : Key := Sum.inr ⟨k.toArray⟩
/-- the fields of an object, in the order of their setting -/
def fldN : List PySem.Str := ["_source", "_club", "_held"]
/-- the class of the objects -/
def ClsB (C : Addr) : Prop := PySem.W.nsIn K mainGlobals "Book" = some (some (.ref C))
def RO : MO → Addr → Prop
  | .lst xs, a => ∃ vs, H a = some (.lst vs) ∧ RVs K H φ xs vs
  | .frz xs, a => ∃ vs, SqF K H a vs ∧ RVs K H φ xs vs
  | .dct kvs, a => ∃ ws, H a = some (.dT ws) ∧ RKs K H φ encT kvs ws
  | .dck kvs, a => ∃ ws, H a = some (.dK ws) ∧ RKs K H φ encK kvs ws
  | .frk kvs, a => ∃ od ws, H a = some (.frz od (.dK ws)) ∧ RKs K H φ encK kvs ws
  | .dcs kvs, a => ∃ ws, H a = some (.dK ws) ∧ RKs K H φ encS kvs ws
  | .frs kvs, a => ∃ od ws, H a = some (.frz od (.dK ws)) ∧ RKs K H φ encS kvs ws
  | .ins fs, a => ∃ C dx ws, ClsB K C ∧ H a = some (.ins C dx (fldN.zip ws)) ∧ fs.length ≤ fldN.length ∧ RVs K H φ fs ws
  | .tbl P q, a => a = P ∧ LamX.TabS H P q
def MO.mut : MO → Bool
  | .frz _ => false
  | _ => true
structure RH (m : MH) : Prop where
  len : φ.length = m.length
  nd : ∀ (i j : Nat) (a : Addr) (o u : MO), φ[i]? = some a → φ[j]? = some a → m[i]? = some o → m[j]? = some u → o.mut = true → u.mut = true → i = j
  obj : ∀ (n : Nat) (a : Addr) (o : MO), φ[n]? = some a → m[n]? = some o → RO K H φ o a
def RL (l : Loc) (σ : L2.St) : Prop := l.length = σ.length ∧ ∀ (i : Nat) (x : PV), l[i]? = some (some x) → ∃ v, σ[i]? = some (some v) ∧ RV K H φ x v
end
structure Ext (K : PySem.W.Frag) (φ : List Addr) (H : Hp) (φ' : List Addr) (H' : Hp) : Prop where
  pre : ∃ e, φ' = φ ++ e
  tup : ∀ a vs, SqT K H a vs → SqT K H' a vs
  frz : ∀ a od (ws : List (Key × V)), H a = some (.frz od (.dK ws)) → H' a = some (.frz od (.dK ws))
  xd : ∀ a (fs : List (Str × V)), H a = some (.xd fs) → H' a = some (.xd fs)
  cod : ∀ a (q : PySem.Str), H a = some (LamX.CodeO a q) → H' a = some (LamX.CodeO a q)
section
variable {K : PySem.W.Frag} {H H' H'' : Hp} {φ φ' φ'' : List Addr}
theorem Ext.refl : Ext K φ H φ H := ⟨⟨[], by simp⟩, fun _ _ h => h, fun _ _ _ h => h, fun _ _ h => h, fun _ _ h => h⟩
theorem Ext.trans (a : Ext K φ H φ' H') (b : Ext K φ' H' φ'' H'') : Ext K φ H φ'' H'' := by
  obtain ⟨e1, h1⟩ := a.pre
  obtain ⟨e2, h2⟩ := b.pre
  exact ⟨⟨e1 ++ e2, by rw [h2, h1, List.append_assoc]⟩, fun x vs h => b.tup x vs (a.tup x vs h), fun x od ws h => b.frz x od ws (a.frz x od ws h), fun x fs h => b.xd x fs (a.xd x fs h), fun x q h => b.cod x q (a.cod x q h)⟩
theorem Ext.get (e : Ext K φ H φ' H') {n : Nat} {a : Addr} (h : φ[n]? = some a) : φ'[n]? = some a := by
  obtain ⟨w, rfl⟩ := e.pre
  have hl : n < φ.length := (List.getElem?_eq_some_iff.mp h).1
  rw [List.getElem?_append_left hl]; exact h
mutual
theorem RV.ext (e : Ext K φ H φ' H') : ∀ {x : PV} {v : V}, RV K H φ x v → RV K H' φ' x v
  | .non, _, h => h
  | .bl _, _, h => h
  | .int _, _, h => h
  | .str _, _, h => h
  | .tup xs, v, h => by
    obtain ⟨a, vs, h1, h2, h3⟩ := h
    exact ⟨a, vs, h1, e.tup _ _ h2, RVs.ext e h3⟩
  | .ref n, v, h => by
    obtain ⟨a, h1, h2⟩ := h
    exact ⟨a, e.get h1, h2⟩
theorem RVs.ext (e : Ext K φ H φ' H') : ∀ {xs : List PV} {vs : List V}, RVs K H φ xs vs → RVs K H' φ' xs vs
  | [], _, h => h
  | x :: xs, vs, h => by
    obtain ⟨v, r, h1, h2, h3⟩ := h
    exact ⟨v, r, h1, RV.ext e h2, RVs.ext e h3⟩
end
theorem RKs.ext {κ κ' : Type} {enc : κ → κ'} (e : Ext K φ H φ' H') : ∀ {kvs : List (κ × PV)} {ws : List (κ' × V)}, RKs K H φ enc kvs ws → RKs K H' φ' enc kvs ws
  | [], _, h => h
  | p :: r, _, h => by
    obtain ⟨v, t, h1, h2, h3⟩ := h
    exact ⟨v, t, h1, h2.ext e, RKs.ext e h3⟩
theorem RL.ext {l : Loc} {σ : L2.St} (e : Ext K φ H φ' H') (h : RL K H φ l σ) : RL K H' φ' l σ := ⟨h.1, fun i x hx => by
  obtain ⟨v, h1, h2⟩ := h.2 i x hx
  exact ⟨v, h1, h2.ext e⟩⟩
/-- the weaker link: what is known of addresses and tuples stays -/
structure ExtT (K : PySem.W.Frag) (φ : List Addr) (H : Hp) (φ' : List Addr) (H' : Hp) : Prop where
  pre : ∃ e, φ' = φ ++ e
  tup : ∀ a vs, SqT K H a vs → SqT K H' a vs
theorem ExtT.get (e : ExtT K φ H φ' H') {n : Nat} {a : Addr} (h : φ[n]? = some a) : φ'[n]? = some a := by
  obtain ⟨w, rfl⟩ := e.pre
  have hl : n < φ.length := (List.getElem?_eq_some_iff.mp h).1
  rw [List.getElem?_append_left hl]; exact h
theorem Ext.t (e : Ext K φ H φ' H') : ExtT K φ H φ' H' := ⟨e.pre, e.tup⟩
mutual
theorem RV.extT (e : ExtT K φ H φ' H') : ∀ {x : PV} {v : V}, RV K H φ x v → RV K H' φ' x v
  | .non, _, h => h
  | .bl _, _, h => h
  | .int _, _, h => h
  | .str _, _, h => h
  | .tup xs, v, h => by
    obtain ⟨a, vs, h1, h2, h3⟩ := h
    exact ⟨a, vs, h1, e.tup _ _ h2, RVs.extT e h3⟩
  | .ref n, v, h => by
    obtain ⟨a, h1, h2⟩ := h
    exact ⟨a, e.get h1, h2⟩
theorem RVs.extT (e : ExtT K φ H φ' H') : ∀ {xs : List PV} {vs : List V}, RVs K H φ xs vs → RVs K H' φ' xs vs
  | [], _, h => h
  | x :: xs, vs, h => by
    obtain ⟨v, r, h1, h2, h3⟩ := h
    exact ⟨v, r, h1, RV.extT e h2, RVs.extT e h3⟩
end
theorem RKs.extT {κ κ' : Type} {enc : κ → κ'} (e : ExtT K φ H φ' H') : ∀ {kvs : List (κ × PV)} {ws : List (κ' × V)}, RKs K H φ enc kvs ws → RKs K H' φ' enc kvs ws
  | [], _, h => h
  | p :: r, _, h => by
    obtain ⟨v, t, h1, h2, h3⟩ := h
    exact ⟨v, t, h1, h2.extT e, RKs.extT e h3⟩
theorem RL.extT {l : Loc} {σ : L2.St} (e : ExtT K φ H φ' H') (h : RL K H φ l σ) : RL K H' φ' l σ := ⟨h.1, fun i x hx => by
  obtain ⟨v, h1, h2⟩ := h.2 i x hx
  exact ⟨v, h1, h2.extT e⟩⟩
theorem RVs.length : ∀ {xs : List PV} {vs : List V}, RVs K H φ xs vs → vs.length = xs.length
  | [], _, h => by cases h; rfl
  | x :: xs, vs, h => by
    obtain ⟨v, r, rfl, h2, h3⟩ := h
    simp [RVs.length h3]
theorem RVs.get : ∀ {xs : List PV} {vs : List V} {i : Nat} {x : PV}, RVs K H φ xs vs → xs[i]? = some x → ∃ v, vs[i]? = some v ∧ RV K H φ x v
  | [], _, i, x, h, e => by simp at e
  | x :: xs, vs, 0, y, h, e => by
    obtain ⟨v, r, rfl, h2, h3⟩ := h
    simp at e; subst e
    exact ⟨v, by simp, h2⟩
  | x :: xs, vs, i + 1, y, h, e => by
    obtain ⟨v, r, rfl, h2, h3⟩ := h
    simp at e
    obtain ⟨w, h4, h5⟩ := RVs.get h3 e
    exact ⟨w, by simpa using h4, h5⟩
theorem RVs.append : ∀ {xs ys : List PV} {vs ws : List V}, RVs K H φ xs vs → RVs K H φ ys ws → RVs K H φ (xs ++ ys) (vs ++ ws)
  | [], _, _, _, h, g => by cases h; exact g
  | x :: xs, ys, vs, ws, h, g => by
    obtain ⟨v, r, rfl, h2, h3⟩ := h
    exact ⟨v, r ++ ws, rfl, h2, RVs.append h3 g⟩
theorem RVs.drop : ∀ {xs : List PV} {vs : List V} (n : Nat), RVs K H φ xs vs → RVs K H φ (xs.drop n) (vs.drop n)
  | _, _, 0, h => h
  | [], _, n + 1, h => by cases h; exact rfl
  | x :: xs, vs, n + 1, h => by
    obtain ⟨v, r, rfl, h2, h3⟩ := h
    exact RVs.drop n h3
theorem RVs.take : ∀ {xs : List PV} {vs : List V} (n : Nat), RVs K H φ xs vs → RVs K H φ (xs.take n) (vs.take n)
  | _, _, 0, h => by simp; exact rfl
  | [], _, n + 1, h => by cases h; exact rfl
  | x :: xs, vs, n + 1, h => by
    obtain ⟨v, r, rfl, h2, h3⟩ := h
    exact ⟨v, r.take n, rfl, h2, RVs.take n h3⟩
theorem RVs.set {y : PV} {w : V} (q : RV K H φ y w) : ∀ {xs : List PV} {vs : List V} (i : Nat), RVs K H φ xs vs → RVs K H φ (xs.set i y) (vs.set i w)
  | [], _, _, h => by cases h; exact rfl
  | x :: xs, vs, 0, h => by
    obtain ⟨v, r, rfl, h2, h3⟩ := h
    exact ⟨w, r, rfl, q, h3⟩
  | x :: xs, vs, i + 1, h => by
    obtain ⟨v, r, rfl, h2, h3⟩ := h
    exact ⟨v, r.set i w, rfl, h2, RVs.set q i h3⟩
/-- a value of the heap's kinds -/
theorem sqt_upd_new {K : PySem.W.Frag} {H : Hp} {p a : Addr} {o : HO} {vs : List V} (n : H p = none) (h : SqT K H a vs) : SqT K (upd H p o) a vs := by
  rcases h with (h | ⟨o, h⟩) | h
  · exact .inl (.inl (by rw [upd_ne (ne_of_none h n)]; exact h))
  · exact .inl (.inr ⟨o, by rw [upd_ne (ne_of_none h n)]; exact h⟩)
  · exact .inr h
theorem SqF.l {K : PySem.W.Frag} {H : Hp} {a : Addr} {vs : List V} (h : SqF K H a vs) : SqL K H a vs := by
  rcases h with h | h
  · exact .inl (.inr h)
  · exact .inr h
theorem sqf_upd_new {K : PySem.W.Frag} {H : Hp} {p a : Addr} {o : HO} {vs : List V} (n : H p = none) (h : SqF K H a vs) : SqF K (upd H p o) a vs := by
  rcases h with ⟨o, h⟩ | h
  · exact .inl ⟨o, by rw [upd_ne (ne_of_none h n)]; exact h⟩
  · exact .inr h
theorem sqf_upd_mut {K : PySem.W.Frag} {H : Hp} {p a : Addr} {o u : HO} {vs : List V} (n : H p = some u) (hu : ∀ o x, u ≠ .frz o x) (h : SqF K H a vs) : SqF K (upd H p o) a vs := by
  rcases h with ⟨o, h⟩ | h
  · exact .inl ⟨o, by rw [upd_ne (ne_of h n (by intro z; exact hu _ _ z.symm))]; exact h⟩
  · exact .inr h
theorem RO.tracked {o : MO} {a : Addr} (h : RO K H φ o a) (hm : o.mut = true) : ∃ u, H a = some u := by
  cases o with
  | lst xs => obtain ⟨vs, h1, _⟩ := h; exact ⟨_, h1⟩
  | frz xs => cases hm
  | dct xs => obtain ⟨vs, h1, _⟩ := h; exact ⟨_, h1⟩
  | dck xs => obtain ⟨vs, h1, _⟩ := h; exact ⟨_, h1⟩
  | frk xs => obtain ⟨od, vs, h1, _⟩ := h; exact ⟨_, h1⟩
  | dcs xs => obtain ⟨vs, h1, _⟩ := h; exact ⟨_, h1⟩
  | frs xs => obtain ⟨od, vs, h1, _⟩ := h; exact ⟨_, h1⟩
  | ins xs => obtain ⟨C, dx, vs, _, h1, _⟩ := h; exact ⟨_, h1⟩
  | tbl P q => obtain ⟨rfl, ps, h1, _⟩ := h; exact ⟨_, h1⟩
/-- no object of a def's own -/
theorem RO.notExt {o : MO} {a c : Addr} {q : PySem.Str} (h : RO K H φ o a) (hm : o.mut = true) : H a ≠ some (LamX.CodeO c q) := by
  unfold LamX.CodeO
  cases o with
  | lst xs => obtain ⟨vs, h1, _⟩ := h; rw [h1]; intro z; cases z
  | frz xs => cases hm
  | dct xs => obtain ⟨vs, h1, _⟩ := h; rw [h1]; intro z; cases z
  | dck xs => obtain ⟨vs, h1, _⟩ := h; rw [h1]; intro z; cases z
  | frk xs => obtain ⟨od, vs, h1, _⟩ := h; rw [h1]; intro z; cases z
  | dcs xs => obtain ⟨vs, h1, _⟩ := h; rw [h1]; intro z; cases z
  | frs xs => obtain ⟨od, vs, h1, _⟩ := h; rw [h1]; intro z; cases z
  | ins xs => obtain ⟨C, dx, vs, _, h1, _⟩ := h; rw [h1]; intro z; cases z
  | tbl P q => obtain ⟨rfl, ps, h1, _⟩ := h; rw [h1]; intro z; cases z
theorem tabS_ne {H : Hp} {P a : Addr} {q : PySem.Str} {u : HO} (t : LamX.TabS H P q) (hP : P ≠ a) (hn : ∀ c, H a ≠ some (LamX.CodeO c q)) : LamX.TabS (upd H a u) P q := by
  obtain ⟨ps, h1, h2, h3⟩ := t
  refine ⟨ps, by rw [upd_ne hP]; exact h1, h2, fun pos cv hc => ?_⟩
  obtain ⟨c, e1, e2⟩ := h3 pos cv hc
  exact ⟨c, e1, by rw [upd_ne (fun z => hn c (by rw [← z]; exact e2))]; exact e2⟩
/-- the objects stay where a new thing is laid -/
theorem RO.new {o : MO} {a p : Addr} {u : HO} (h : RO K H φ o a) (n : H p = none) (e : Ext K φ H φ' (upd H p u)) : RO K (upd H p u) φ' o a := by
  cases o with
  | lst ys =>
    obtain ⟨ws, q1, q2⟩ := h
    exact ⟨ws, by rw [upd_ne (ne_of_none q1 n)]; exact q1, q2.ext e⟩
  | frz ys =>
    obtain ⟨ws, q1, q2⟩ := h
    exact ⟨ws, sqf_upd_new n q1, q2.ext e⟩
  | dct ys =>
    obtain ⟨ws, q1, q2⟩ := h
    exact ⟨ws, by rw [upd_ne (ne_of_none q1 n)]; exact q1, q2.ext e⟩
  | dck ys =>
    obtain ⟨ws, q1, q2⟩ := h
    exact ⟨ws, by rw [upd_ne (ne_of_none q1 n)]; exact q1, q2.ext e⟩
  | frk ys =>
    obtain ⟨od, ws, q1, q2⟩ := h
    exact ⟨od, ws, by rw [upd_ne (ne_of_none q1 n)]; exact q1, q2.ext e⟩
  | dcs ys =>
    obtain ⟨ws, q1, q2⟩ := h
    exact ⟨ws, by rw [upd_ne (ne_of_none q1 n)]; exact q1, q2.ext e⟩
  | frs ys =>
    obtain ⟨od, ws, q1, q2⟩ := h
    exact ⟨od, ws, by rw [upd_ne (ne_of_none q1 n)]; exact q1, q2.ext e⟩
  | ins ys =>
    obtain ⟨C, dx, ws, c1, q1, q3, q2⟩ := h
    exact ⟨C, dx, ws, c1, by rw [upd_ne (ne_of_none q1 n)]; exact q1, q3, q2.ext e⟩
  | tbl P q =>
    obtain ⟨rfl, t⟩ := h
    exact ⟨rfl, t.ext fun b o z => by rw [upd_ne (ne_of_none z n)]; exact z⟩
/-- a new object -/
theorem RH.newO {m : MH} {p : Addr} {u : HO} {x : MO} (h : RH K H φ m) (n : H p = none) (e : Ext K φ H (φ ++ [p]) (upd H p u)) (q : RO K (upd H p u) (φ ++ [p]) x p) :
    RH K (upd H p u) (φ ++ [p]) (m ++ [x]) := by
  have cut : ∀ (i : Nat) (a : Addr) (o : MO), (φ ++ [p])[i]? = some a → (m ++ [x])[i]? = some o → (i < φ.length ∧ φ[i]? = some a ∧ m[i]? = some o) ∨ (i = φ.length ∧ a = p ∧ o = x) := by
    intro i a o h1 h2
    by_cases hi : i < φ.length
    · rw [List.getElem?_append_left hi] at h1
      rw [List.getElem?_append_left (by rw [← h.len]; exact hi)] at h2
      exact .inl ⟨hi, h1, h2⟩
    · have hi' : i = φ.length := by
        have := (List.getElem?_eq_some_iff.mp h1).1
        simp at this; omega
      subst hi'
      simp at h1
      rw [h.len] at h2
      simp at h2
      exact .inr ⟨rfl, h1.symm, h2.symm⟩
  refine ⟨by simp [h.len], ?_, ?_⟩
  · intro i j a o w h1 h2 h3 h4 m1 m2
    rcases cut i a o h1 h3 with ⟨_, c1, c2⟩ | ⟨c1, c2, c3⟩ <;> rcases cut j a w h2 h4 with ⟨_, d1, d2⟩ | ⟨d1, d2, d3⟩
    · exact h.nd i j a o w c1 d1 c2 d2 m1 m2
    · obtain ⟨z, hz⟩ := (h.obj i a o c1 c2).tracked m1
      rw [d2, n] at hz; cases hz
    · obtain ⟨z, hz⟩ := (h.obj j a w d1 d2).tracked m2
      rw [c2, n] at hz; cases hz
    · omega
  · intro i a o h1 h2
    rcases cut i a o h1 h2 with ⟨_, c1, c2⟩ | ⟨c1, c2, c3⟩
    · exact (h.obj i a o c1 c2).new n e
    · rw [c2, c3]; exact q
/-- a new list -/
theorem RH.newL {m : MH} {p : Addr} {xs : List PV} {vs : List V} (h : RH K H φ m) (n : H p = none) (q : RVs K H φ xs vs) :
    Ext K φ H (φ ++ [p]) (upd H p (.lst vs)) ∧ RH K (upd H p (.lst vs)) (φ ++ [p]) (m ++ [.lst xs]) ∧ RV K (upd H p (.lst vs)) (φ ++ [p]) (.ref m.length) (.ref p) := by
  have e : Ext K φ H (φ ++ [p]) (upd H p (.lst vs)) := ⟨⟨[p], rfl⟩, fun a ws w => sqt_upd_new n w, fun _ _ _ w => by rw [upd_ne (ne_of_none w n)]; exact w, fun _ _ w => by rw [upd_ne (ne_of_none w n)]; exact w, fun _ _ w => by rw [upd_ne (ne_of_none w n)]; exact w⟩
  exact ⟨e, h.newO n e ⟨vs, upd_same, q.ext e⟩, ⟨p, by simp [← h.len], rfl⟩⟩
/-- a new tuple -/
theorem RH.newT {m : MH} {p : Addr} {xs : List PV} {vs : List V} (h : RH K H φ m) (n : H p = none) (q : RVs K H φ xs vs) :
    Ext K φ H φ (upd H p (.tup vs)) ∧ RH K (upd H p (.tup vs)) φ m ∧ RV K (upd H p (.tup vs)) φ (.tup xs) (.ref p) := by
  have e : Ext K φ H φ (upd H p (.tup vs)) := ⟨⟨[], by simp⟩, fun a ws w => sqt_upd_new n w, fun _ _ _ w => by rw [upd_ne (ne_of_none w n)]; exact w, fun _ _ w => by rw [upd_ne (ne_of_none w n)]; exact w, fun _ _ w => by rw [upd_ne (ne_of_none w n)]; exact w⟩
  exact ⟨e, ⟨h.len, h.nd, fun i a o h1 h2 => (h.obj i a o h1 h2).new n e⟩, ⟨p, vs, rfl, .inl (.inl upd_same), q.ext e⟩⟩
theorem sqt_upd_mut {K : PySem.W.Frag} {H : Hp} {p a : Addr} {u o : HO} {vs : List V} (n : H p = some u) (nt : ∀ xs, u ≠ .tup xs) (nf : ∀ o x, u ≠ .frz o x) (h : SqT K H a vs) : SqT K (upd H p o) a vs := by
  rcases h with (h | ⟨o, h⟩) | h
  · exact .inl (.inl (by rw [upd_ne (ne_of h n (by intro z; exact nt _ z.symm))]; exact h))
  · exact .inl (.inr ⟨o, by rw [upd_ne (ne_of h n (by intro z; exact nf _ _ z.symm))]; exact h⟩)
  · exact .inr h
/-- an object is changed -/
theorem RH.setG {m : MH} {k : Nat} {a : Addr} {o1 o2 : MO} {u2 : HO} (h : RH K H φ m) (hk : φ[k]? = some a) (hm : m[k]? = some o1) (mu : o1.mut = true) (st : ∀ b vs, SqT K H b vs → SqT K (upd H a u2) b vs) (sf : ∀ b vs, SqF K H b vs → SqF K (upd H a u2) b vs) (mu2 : o2.mut = true)
    (q : ExtT K φ H φ (upd H a u2) → RO K (upd H a u2) φ o2 a) : ExtT K φ H φ (upd H a u2) ∧ RH K (upd H a u2) φ (m.set k o2) := by
  have e : ExtT K φ H φ (upd H a u2) := ⟨⟨[], by simp⟩, fun b us w => st b us w⟩
  have hkm : k < m.length := (List.getElem?_eq_some_iff.mp hm).1
  refine ⟨e, ⟨by simp [h.len], ?_, ?_⟩⟩
  · intro i j b o w h1 h2 h3 h4 m1 m2
    have back : ∀ (i : Nat) (o : MO), (m.set k o2)[i]? = some o → o.mut = true → ∃ o', m[i]? = some o' ∧ o'.mut = true := by
      intro i o h3 m1
      by_cases hi : i = k
      · subst hi; exact ⟨_, hm, mu⟩
      · rw [List.getElem?_set_ne (Ne.symm hi)] at h3; exact ⟨o, h3, m1⟩
    obtain ⟨o', e1, e2⟩ := back i o h3 m1
    obtain ⟨w', e3, e4⟩ := back j w h4 m2
    exact h.nd i j b o' w' h1 h2 e1 e3 e2 e4
  · intro i b o h1 h2
    by_cases hi : i = k
    · subst hi
      rw [List.getElem?_set_self hkm] at h2
      cases h2
      rw [hk] at h1; cases h1
      exact q e
    · rw [List.getElem?_set_ne (Ne.symm hi)] at h2
      have r := h.obj i b o h1 h2
      have nb : o.mut = true → b ≠ a := fun om z => hi (h.nd i k a _ _ (z ▸ h1) hk h2 hm om mu)
      cases o with
      | lst zs =>
        obtain ⟨us, q1, q2⟩ := r
        exact ⟨us, by rw [upd_ne (nb rfl)]; exact q1, q2.extT e⟩
      | frz zs =>
        obtain ⟨us, q1, q2⟩ := r
        exact ⟨us, sf b us q1, q2.extT e⟩
      | dct zs =>
        obtain ⟨us, q1, q2⟩ := r
        exact ⟨us, by rw [upd_ne (nb rfl)]; exact q1, q2.extT e⟩
      | dck zs =>
        obtain ⟨us, q1, q2⟩ := r
        exact ⟨us, by rw [upd_ne (nb rfl)]; exact q1, q2.extT e⟩
      | frk zs =>
        obtain ⟨od, us, q1, q2⟩ := r
        exact ⟨od, us, by rw [upd_ne (nb rfl)]; exact q1, q2.extT e⟩
      | dcs zs =>
        obtain ⟨us, q1, q2⟩ := r
        exact ⟨us, by rw [upd_ne (nb rfl)]; exact q1, q2.extT e⟩
      | frs zs =>
        obtain ⟨od, us, q1, q2⟩ := r
        exact ⟨od, us, by rw [upd_ne (nb rfl)]; exact q1, q2.extT e⟩
      | ins zs =>
        obtain ⟨C, dx, us, c1, q1, q3, q2⟩ := r
        exact ⟨C, dx, us, c1, by rw [upd_ne (nb rfl)]; exact q1, q3, q2.extT e⟩
      | tbl P q =>
        have hba := nb rfl
        obtain ⟨rfl, t⟩ := r
        exact ⟨rfl, tabS_ne t hba fun c => (h.obj k a o1 hk hm).notExt mu⟩
theorem RH.setM {m : MH} {k : Nat} {a : Addr} {o1 o2 : MO} {u1 u2 : HO} (h : RH K H φ m) (hk : φ[k]? = some a) (hm : m[k]? = some o1) (mu : o1.mut = true) (ha : H a = some u1) (nt : ∀ xs, u1 ≠ .tup xs) (nf : ∀ o x, u1 ≠ .frz o x) (mu2 : o2.mut = true)
    (q : Ext K φ H φ (upd H a u2) → RO K (upd H a u2) φ o2 a) : Ext K φ H φ (upd H a u2) ∧ RH K (upd H a u2) φ (m.set k o2) := by
  have nx : ∀ fs, u1 ≠ .xd fs := fun fs z => by
    have r := h.obj k a o1 hk hm
    rw [z] at ha
    cases o1 with
    | frz _ => cases mu
    | ins _ => obtain ⟨_, _, _, _, q1, _⟩ := r; rw [ha] at q1; cases q1
    | tbl _ _ => obtain ⟨rfl, _, q1, _⟩ := r; rw [ha] at q1; cases q1
    | _ => first | (obtain ⟨_, q1, _⟩ := r; rw [ha] at q1; cases q1; done) | (obtain ⟨_, _, q1, _⟩ := r; rw [ha] at q1; cases q1; done) | (cases mu; done)
  have e : Ext K φ H φ (upd H a u2) := ⟨⟨[], by simp⟩, fun _ _ w => sqt_upd_mut ha nt nf w, fun b od ws w => by rw [upd_ne (fun z => by rw [z, ha] at w; exact nf _ _ (Option.some.inj w))]; exact w, fun b fs w => by rw [upd_ne (fun z => by rw [z, ha] at w; exact nx _ (Option.some.inj w))]; exact w, fun b q w => by rw [upd_ne (fun z => (h.obj k a o1 hk hm).notExt mu (q := q) (c := b) (by rw [← z]; exact w))]; exact w⟩
  exact ⟨e, (h.setG hk hm mu (fun _ _ w => sqt_upd_mut ha nt nf w) (fun _ _ w => sqf_upd_mut ha nf w) mu2 fun _ => q e).2⟩
/-- a list is changed -/
theorem RH.setL {m : MH} {k : Nat} {a : Addr} {xs ys : List PV} {ws : List V} (h : RH K H φ m) (hk : φ[k]? = some a) (hm : m[k]? = some (.lst xs)) (q : RVs K H φ ys ws) :
    Ext K φ H φ (upd H a (.lst ws)) ∧ RH K (upd H a (.lst ws)) φ (m.set k (.lst ys)) := by
  obtain ⟨vs, ha, _⟩ := h.obj k a _ hk hm
  exact h.setM hk hm rfl ha (fun _ z => by cases z) (fun _ _ z => by cases z) rfl fun e => ⟨ws, upd_same, q.ext e⟩
end
end SM
set_option Elab.async false
set_option linter.all false
set_option maxRecDepth 100000
set_option maxHeartbeats 1000000
namespace SM
open PySem PySem.Spec PyProof.Rows L2
/-- what is wanted of an exception: its class, its fields, the addresses, the heap of the reckoning, the slots, the heap -/
abbrev XM := String → List PV → List Addr → Loc → MH → L2.St → Hp → Prop
def W0 : XM := fun _ _ _ _ _ _ _ => False
abbrev Rel (α β : Type) := Hp → List Addr → α → β → Prop
def rV (K : PySem.W.Frag) : Rel PV V := fun H φ x v => RV K H φ x v
def rA (K : PySem.W.Frag) : Rel (List PV) (List V) := fun H φ x v => RVs K H φ x v
def rB : Rel Bool Bool := fun _ _ b c => c = b
class Stays {α β : Type} (K : PySem.W.Frag) (rel : Rel α β) : Prop where
  st : ∀ {φ φ' : List Addr} {H H' : Hp} {x : α} {v : β}, Ext K φ H φ' H' → rel H φ x v → rel H' φ' x v
instance {K} : Stays K (rV K) := ⟨fun e h => RV.ext e h⟩
instance {K} : Stays K (rA K) := ⟨fun e h => RVs.ext e h⟩
instance {K} : Stays K rB := ⟨fun _ h => h⟩
def Post {α β : Type} (K : PySem.W.Frag) (rel : Rel α β) (W : XM) (φ : List Addr) (l : Loc) (σ : L2.St) (H : Hp) (r : R α) (Q : β → Hp → Prop) : Prop := match r with
  | .ok x m => ∀ φ' H' v, Ext K φ H φ' H' → RH K H' φ' m → rel H' φ' x v → Q v H'
  | .ex c fs m => ∀ φ' H', Ext K φ H φ' H' → RH K H' φ' m → W c fs φ' l m σ H'
  | .bad => False
def Rdg {α β : Type} (K : PySem.W.Frag) (rel : Rel α β) (W : XM) (s : Loc → MH → R α) : L2.St → Hp → (β → Hp → Prop) → Prop := fun σ H Q =>
  ∃ φ l m, RH K H φ m ∧ RL K H φ l σ ∧ Post K rel W φ l σ H (s l m) Q
section
variable {K : PySem.W.Frag} {α β α' β' : Type} {rel : Rel α β} {rel' : Rel α' β'} {W : XM} {φ φ' : List Addr} {σ : L2.St} {H H' : Hp} {r : R α} {Q Q' : β → Hp → Prop} {s : Loc → MH → R α} {l : Loc} {m : MH}
theorem Post.ext (e : Ext K φ H φ' H') (h : Post K rel W φ l σ H r Q) : Post K rel W φ' l σ H' r Q := by
  cases r with
  | ok x m => exact fun φ2 H2 v e2 => h φ2 H2 v (e.trans e2)
  | ex c fs m => exact fun φ2 H2 e2 => h φ2 H2 (e.trans e2)
  | bad => exact h
theorem Post.mono (h : Post K rel W φ l σ H r Q) (q : ∀ v H, Q v H → Q' v H) : Post K rel W φ l σ H r Q' := by
  cases r with
  | ok x m => exact fun φ2 H2 v e2 a b => q _ _ (h φ2 H2 v e2 a b)
  | ex c fs m => exact h
  | bad => exact h
theorem Rdg.mono (h : Rdg K rel W s σ H Q) (q : ∀ v H, Q v H → Q' v H) : Rdg K rel W s σ H Q' := by
  obtain ⟨φ, l, m, h1, h2, h3⟩ := h
  exact ⟨φ, l, m, h1, h2, h3.mono q⟩
theorem Rdg.at (h1 : RH K H φ m) (h2 : RL K H φ l σ) (h3 : Post K rel W φ l σ H (s l m) Q) : Rdg K rel W s σ H Q := ⟨φ, l, m, h1, h2, h3⟩
/-- behind the first part -/
theorem Post.bind {k : α → MH → R α'} {Q : β' → Hp → Prop} (hl : RL K H φ l σ) (h : Post K rel' W φ l σ H (r.bind k) Q) :
    Post K rel W φ l σ H r (fun v H1 => ∃ φ1 x m1, Ext K φ H φ1 H1 ∧ RH K H1 φ1 m1 ∧ RL K H1 φ1 l σ ∧ rel H1 φ1 x v ∧ Post K rel' W φ1 l σ H1 (k x m1) Q) := by
  cases r with
  | ok x m => exact fun φ2 H2 v e a b => ⟨φ2, x, m, e, a, hl.ext e, b, Post.ext e h⟩
  | ex c fs m => exact h
  | bad => exact h
end
structure QE (X : Cx) (W : XM) (e : Expr) (s : SE) : Prop where
  pe : PE X e (Rdg X.K (rV X.K) W s)
structure QA (X : Cx) (W : XM) (es : List Expr) (s : SA) : Prop where
  pa : PA X es (Rdg X.K (rA X.K) W s)
structure QT (X : Cx) (W : XM) (e : Expr) (s : SB) : Prop where
  pt : PT X e (Rdg X.K rB W s)
structure QW (X : Cx) (W : XM) (e : Expr) (s : SB) : Prop where
  pw : PW X e (Rdg X.K rB W s)
theorem pe_imp {X : Cx} {e : Expr} {t t' : TE} (h : PE X e t) (i : ∀ σ H Q, t' σ H Q → t σ H Q) : PE X e t' := ⟨fun pins s σ H Q I q => h.run pins s σ H Q I (i σ H Q q)⟩
theorem pt_imp {X : Cx} {e : Expr} {t t' : TT} (h : PT X e t) (i : ∀ σ H Q, t' σ H Q → t σ H Q) : PT X e t' := ⟨fun pins s σ H Q I q => h.run pins s σ H Q I (i σ H Q q)⟩
theorem pw_imp {X : Cx} {e : Expr} {t t' : TT} (h : PW X e t) (i : ∀ σ H Q, t' σ H Q → t σ H Q) : PW X e t' := ⟨fun wh pins s σ H Q I q => h.run wh pins s σ H Q I (i σ H Q q)⟩
theorem pa_imp {X : Cx} {e : List Expr} {t t' : TA} (h : PA X e t) (i : ∀ σ H Q, t' σ H Q → t σ H Q) : PA X e t' := ⟨fun pos pins s σ H Q I q => h.run pos pins s σ H Q I (i σ H Q q)⟩
section
variable {X : Cx} {W : XM}
def sVar (i : Nat) : SE := fun l m => match l[i]? with
  | some (some v) => .ok v m
  | _ => .bad
def sC (v : PV) : SE := fun _ m => .ok v m
theorem q_var (i : Nat) {x : Str} {pos : Pos} (hN : X.N[i]? = some x := by rfl) (hv : Vis X.env.scope x := by first | exact Or.inl rfl | exact Or.inr (Or.inl rfl) | exact Or.inr (Or.inr rfl)) (hd : (x == ("__debug__" : Str)) = false := by decide)
    (hcd : (x == ("__classdict__" : Str)) = false := by decide) : QE X W (.Name x pos) (sVar i) := ⟨pe_imp (pe_var hN hv hd hcd) fun σ H Q h => by
  obtain ⟨φ, l, m, h1, h2, h3⟩ := h
  unfold sVar at h3
  cases hl : l[i]? with
  | none => rw [hl] at h3; exact h3.elim
  | some o =>
    cases o with
    | none => rw [hl] at h3; exact h3.elim
    | some x =>
      rw [hl] at h3
      obtain ⟨v, e1, e2⟩ := h2.2 i x hl
      exact ⟨v, e1, h3 φ H v Ext.refl h1 e2⟩⟩
theorem q_int {i j pos} : QE X W (.Constant (.int i) j pos) (sC (.int i)) := ⟨pe_imp pe_int fun σ H Q h => by
  obtain ⟨φ, l, m, h1, h2, h3⟩ := h
  exact h3 φ H _ Ext.refl h1 rfl⟩
theorem q_bl {i j pos} : QE X W (.Constant (.bool i) j pos) (sC (.bl i)) := ⟨pe_imp pe_bl fun σ H Q h => by
  obtain ⟨φ, l, m, h1, h2, h3⟩ := h
  exact h3 φ H _ Ext.refl h1 rfl⟩
theorem q_non {j pos} : QE X W (.Constant .none j pos) (sC .non) := ⟨pe_imp pe_non fun σ H Q h => by
  obtain ⟨φ, l, m, h1, h2, h3⟩ := h
  exact h3 φ H _ Ext.refl h1 rfl⟩
theorem q_str {x : Str} {j pos} : QE X W (.Constant (.str x) j pos) (sC (.str x.cps.toList)) := ⟨pe_imp pe_str fun σ H Q h => by
  obtain ⟨φ, l, m, h1, h2, h3⟩ := h
  exact h3 φ H _ Ext.refl h1 rfl⟩
end
def lst? (m : MH) (n : Nat) : Option (List PV) := match m[n]? with
  | some (.lst xs) => some xs
  | _ => none
def seq? (m : MH) (n : Nat) : Option (List PV) := match m[n]? with
  | some (.lst xs) => some xs
  | some (.frz xs) => some xs
  | _ => none
theorem lst_some {m : MH} {n : Nat} {xs : List PV} (h : lst? m n = some xs) : m[n]? = some (.lst xs) := by
  unfold lst? at h
  split at h
  · rename_i e; cases h; exact e
  · cases h
theorem seq_some {m : MH} {n : Nat} {xs : List PV} (h : seq? m n = some xs) : m[n]? = some (.lst xs) ∨ m[n]? = some (.frz xs) := by
  unfold seq? at h
  split at h
  · rename_i e; cases h; exact .inl e
  · rename_i e; cases h; exact .inr e
  · cases h
section
variable {K : PySem.W.Frag} {H : Hp} {φ : List Addr} {m : MH} {n : Nat} {xs : List PV} {v : V}
theorem RH.lst (h : RH K H φ m) (r : RV K H φ (.ref n) v) (e : lst? m n = some xs) : ∃ a vs, φ[n]? = some a ∧ v = .ref a ∧ H a = some (.lst vs) ∧ RVs K H φ xs vs := by
  obtain ⟨a, h1, h2⟩ := r
  obtain ⟨vs, q1, q2⟩ := h.obj n a _ h1 (lst_some e)
  exact ⟨a, vs, h1, h2, q1, q2⟩
theorem RH.seq (h : RH K H φ m) (r : RV K H φ (.ref n) v) (e : seq? m n = some xs) : ∃ a vs, v = .ref a ∧ SqL K H a vs ∧ RVs K H φ xs vs := by
  obtain ⟨a, h1, h2⟩ := r
  rcases seq_some e with e | e
  · obtain ⟨vs, q1, q2⟩ := h.obj n a _ h1 e
    exact ⟨a, vs, h2, .inl (.inl q1), q2⟩
  · obtain ⟨vs, q1, q2⟩ := h.obj n a _ h1 e
    exact ⟨a, vs, h2, q1.l, q2⟩
end
abbrev OR := Option (PV × MH)
def lift {α : Type} (o : Option (α × MH)) : R α := match o with
  | some (x, m) => .ok x m
  | none => .bad
def PostO (K : PySem.W.Frag) (φ : List Addr) (H : Hp) (o : OR) (Q : VK) : Prop := ∃ x m, o = some (x, m) ∧ ∀ φ' H' v, Ext K φ H φ' H' → RH K H' φ' m → RV K H' φ' x v → Q v H'
theorem PostO.of {K : PySem.W.Frag} {W : XM} {φ : List Addr} {l : Loc} {σ : L2.St} {H : Hp} {o : OR} {Q : VK} (h : Post K (rV K) W φ l σ H (lift o) Q) : PostO K φ H o Q := by
  cases o with
  | none => exact h.elim
  | some p => obtain ⟨x, m⟩ := p; exact ⟨x, m, rfl, h⟩
/-- an operation on two values -/
def OpQ (X : Cx) (f : Value → Value → Sem Value) (op : PV → PV → MH → OR) : Prop :=
  OpR X f (fun v w H Q => ∃ φ m x y, RH X.K H φ m ∧ RV X.K H φ x v ∧ RV X.K H φ y w ∧ PostO X.K φ H (op x y m) Q)
def UnQ (X : Cx) (f : Value → Sem Value) (op : PV → MH → OR) : Prop :=
  UnR X f (fun v H Q => ∃ φ m x, RH X.K H φ m ∧ RV X.K H φ x v ∧ PostO X.K φ H (op x m) Q)
def sOp (op : PV → PV → MH → OR) (a b : SE) : SE := fun l m => (a l m).bind fun x m1 => (b l m1).bind fun y m2 => lift (op x y m2)
def sUn (op : PV → MH → OR) (a : SE) : SE := fun l m => (a l m).bind fun x m1 => lift (op x m1)
/-- two readings in a row -/
theorem two {K : PySem.W.Frag} {W : XM} {a b : SE} {σ : L2.St} {H : Hp} {α β : Type} {rel : Rel α β} {k : PV → PV → MH → R α} {Q : β → Hp → Prop} (h : Rdg K rel W (fun l m => (a l m).bind fun x m1 => (b l m1).bind fun y m2 => k x y m2) σ H Q) :
    Rdg K (rV K) W a σ H fun v H1 => Rdg K (rV K) W b σ H1 fun w H2 => ∃ φ m x y l, RH K H2 φ m ∧ RV K H2 φ x v ∧ RV K H2 φ y w ∧ Post K rel W φ l σ H2 (k x y m) Q := by
  obtain ⟨φ, l, m, h1, h2, h3⟩ := h
  refine ⟨φ, l, m, h1, h2, (Post.bind (rel := rV K) h2 h3).mono ?_⟩
  rintro v H1 ⟨φ1, x, m1, e1, a1, b1, c1, d1⟩
  refine ⟨φ1, l, m1, a1, b1, (Post.bind (rel := rV K) b1 d1).mono ?_⟩
  rintro w H2 ⟨φ2, y, m2, e2, a2, b2, c2, d2⟩
  exact ⟨φ2, m2, x, y, l, a2, RV.ext e2 c1, c2, d2⟩
theorem one {K : PySem.W.Frag} {W : XM} {a : SE} {σ : L2.St} {H : Hp} {α β : Type} {rel : Rel α β} {k : PV → MH → R α} {Q : β → Hp → Prop} (h : Rdg K rel W (fun l m => (a l m).bind fun x m1 => k x m1) σ H Q) :
    Rdg K (rV K) W a σ H fun v H1 => ∃ φ m x l, RH K H1 φ m ∧ RV K H1 φ x v ∧ Post K rel W φ l σ H1 (k x m) Q := by
  obtain ⟨φ, l, m, h1, h2, h3⟩ := h
  refine ⟨φ, l, m, h1, h2, (Post.bind (rel := rV K) h2 h3).mono ?_⟩
  rintro v H1 ⟨φ1, x, m1, e1, a1, b1, c1, d1⟩
  exact ⟨φ1, m1, x, l, a1, c1, d1⟩
section
variable {X : Cx} {W : XM} {a b : Expr} {sa sb : SE} {pos : Pos}
theorem q_bin {op : Operator} {f : PV → PV → MH → OR} (ho : OpQ X (binaryOp op) f) (ha : QE X W a sa) (hb : QE X W b sb) : QE X W (.BinOp a op b pos) (sOp f sa sb) :=
  ⟨pe_imp (pe_op ho ha.pe hb.pe) fun σ H Q h => (two h).mono fun v H1 h1 => Rdg.mono h1 fun w H2 ⟨φ, m, x, y, _, c1, c2, c3, c4⟩ => ⟨φ, m, x, y, c1, c2, c3, .of c4⟩⟩
theorem q_un {op : UnaryOp} {f : PV → MH → OR} (ho : UnQ X (unaryOp op) f) (ha : QE X W a sa) : QE X W (.UnaryOp op a pos) (sUn f sa) :=
  ⟨pe_imp (pe_un ho ha.pe) fun σ H Q h => (one h).mono fun v H1 ⟨φ, m, x, _, c1, c2, c4⟩ => ⟨φ, m, x, c1, c2, .of c4⟩⟩
theorem q_cmp {op : CmpOp} {f : PV → PV → MH → OR} (ho : OpQ X (compareOp op) f) (ha : QE X W a sa) (hb : QE X W b sb) (hm : behindInMarks op b = false) : QE X W (.Compare a [op] [b] pos) (sOp f sa sb) :=
  ⟨pe_imp (pe_cmpR ho ha.pe hb.pe hm) fun σ H Q h => (two h).mono fun v H1 h1 => Rdg.mono h1 fun w H2 ⟨φ, m, x, y, _, c1, c2, c3, c4⟩ => ⟨φ, m, x, y, c1, c2, c3, .of c4⟩⟩
end
set_option exponentiation.threshold 5000
@[irreducible] def big : Nat := 2 ^ 4096
theorem big_eq : big = 2 ^ 4096 := by unfold big; rfl
theorem log2_big {n : Nat} (h : n < big) : n.log2 < 4096 := PySem.Flt.log2_lt_of (by decide) (by rw [← big_eq]; exact h)
section
variable {K : PySem.W.Frag} {H : Hp} {φ : List Addr} {x : PV} {v : V}
theorem RV.int {i : Int} (h : RV K H φ (.int i) v) : v = .int i := h
end
def addv : PV → PV → MH → OR
  | .int a, .int b, m => some (.int (a + b), m)
  | .str a, .str b, m => if a.length + b.length ≤ 16777216 then some (.str (a ++ b), m) else none
  | .tup a, .tup b, m => if a.length + b.length ≤ 16777216 then some (.tup (a ++ b), m) else none
  | .ref i, .ref j, m => match lst? m i, lst? m j with
    | some xs, some ys => if xs.length + ys.length ≤ 16777216 then some (.ref m.length, m ++ [.lst (xs ++ ys)]) else none
    | _, _ => none
  | _, _, _ => none
def subv : PV → PV → MH → OR
  | .int a, .int b, m => some (.int (a - b), m)
  | _, _, _ => none
def mulv : PV → PV → MH → OR
  | .int a, .int b, m => if (a.natAbs < 18446744073709551616 ∨ b.natAbs < 18446744073709551616) ∨ (a.natAbs < big ∧ b.natAbs < big) then some (.int (a * b), m) else none
  | _, _, _ => none
def fdivv : PV → PV → MH → OR
  | .int a, .int b, m => if b ≠ 0 ∧ b.natAbs < big then some (.int (a.fdiv b), m) else none
  | _, _, _ => none
def modv : PV → PV → MH → OR
  | .int a, .int b, m => if b ≠ 0 then some (.int (a.fmod b), m) else none
  | _, _, _ => none
def powv : PV → PV → MH → OR
  | .int a, .int b, m => if 0 ≤ b ∧ b ≤ 1000 ∧ a.natAbs < 18446744073709551616 then some (.int (a ^ b.toNat), m) else none
  | _, _, _ => none
def negv : PV → MH → OR
  | .int a, m => some (.int (-a), m)
  | _, _ => none
theorem str_app (a b : List Nat) : (⟨a.toArray⟩ : Str) ++ (⟨b.toArray⟩ : Str) = ⟨(a ++ b).toArray⟩ := by
  show Str.mk _ = _
  simp
theorem str_len (a : List Nat) : (⟨a.toArray⟩ : Str).length = a.length := by simp [Str.length]
theorem sl_eq : sizeLine = 16777216 := sizeLine_eq
section
variable {X : Cx}
theorem OpQ.of_eq {f : Value → Value → Sem Value} {op : PV → PV → MH → OR} (h : ∀ (v w : V) (H : Hp) (Q : VK) φ m x y, RH X.K H φ m → RV X.K H φ x v → RV X.K H φ y w → PostO X.K φ H (op x y m) Q → ∃ r : R2, OpR X f r ∧ r v w H Q) : OpQ X f op := by
  intro pins s σ H v w vv ww Q I rv rw' ⟨φ, m, x, y, h1, h2, h3, h4⟩
  obtain ⟨r, hr, q⟩ := h v w H Q φ m x y h1 h2 h3 h4
  exact hr pins s σ H v w vv ww Q I rv rw' q
theorem PostO.same {K : PySem.W.Frag} {φ : List Addr} {H : Hp} {m : MH} {x : PV} {v : V} {Q : VK} (h : PostO K φ H (some (x, m)) Q) (h1 : RH K H φ m) (r : RV K H φ x v) : Q v H := by
  obtain ⟨y, m', e, q⟩ := h
  cases e
  exact q φ H v Ext.refl h1 r
theorem PostO.not {K : PySem.W.Frag} {φ : List Addr} {H : Hp} {Q : VK} (h : PostO K φ H none Q) : False := by
  obtain ⟨y, m', e, q⟩ := h
  cases e
theorem PostO.newT {K : PySem.W.Frag} {φ : List Addr} {H : Hp} {m : MH} {xs : List PV} {vs : List V} {Q : VK} (h : PostO K φ H (some (.tup xs, m)) Q) (h1 : RH K H φ m) (r : RVs K H φ xs vs) : ∀ p, H p = none → Q (.ref p) (upd H p (.tup vs)) := by
  obtain ⟨y, m', e, q⟩ := h
  cases e
  intro p np
  obtain ⟨e, a, b⟩ := h1.newT np r
  exact q _ _ _ e a b
theorem PostO.newL {K : PySem.W.Frag} {φ : List Addr} {H : Hp} {m : MH} {xs : List PV} {vs : List V} {Q : VK} (h : PostO K φ H (some (.ref m.length, m ++ [.lst xs])) Q) (h1 : RH K H φ m) (r : RVs K H φ xs vs) : ∀ p, H p = none → Q (.ref p) (upd H p (.lst vs)) := by
  obtain ⟨y, m', e, q⟩ := h
  cases e
  intro p np
  obtain ⟨e, a, b⟩ := h1.newL np r
  exact q _ _ _ e a b
theorem o_sub : OpQ X (binaryOp .Sub) subv := .of_eq fun v w H Q φ m x y h1 h2 h3 h4 => by
  unfold subv at h4
  split at h4
  · cases h2; cases h3
    exact ⟨_, op_sub, _, _, rfl, rfl, h4.same h1 rfl⟩
  · exact h4.not.elim
theorem o_add : OpQ X (binaryOp .Add) addv := .of_eq fun v w H Q φ m x y h1 h2 h3 h4 => by
  unfold addv at h4
  split at h4
  · cases h2; cases h3
    exact ⟨_, op_add, _, _, rfl, rfl, h4.same h1 rfl⟩
  · cases h2; cases h3
    split at h4
    · rename_i hz
      exact ⟨_, op_add_str, _, _, rfl, rfl, by rw [str_len, str_len, sl_eq]; exact hz, by rw [str_app]; exact h4.same h1 rfl⟩
    · exact h4.not.elim
  · obtain ⟨p, vs, rfl, a1, a2⟩ := h2
    obtain ⟨q, ws, rfl, b1, b2⟩ := h3
    split at h4
    · rename_i hz
      refine ⟨_, op_catA, p, q, vs, ws, rfl, rfl, a1, b1, by rw [a2.length, b2.length, sl_eq]; exact hz, fun z => ?_, fun z1 z2 => ?_, fun _ _ => ?_⟩
      · subst z
        have e := List.eq_nil_of_length_eq_zero a2.length.symm; subst e
        exact h4.same h1 ⟨q, ws, rfl, b1, b2⟩
      · subst z2
        have e := List.eq_nil_of_length_eq_zero b2.length.symm; subst e
        simp only [List.append_nil] at h4
        exact h4.same h1 ⟨p, vs, rfl, a1, a2⟩
      · exact h4.newT h1 (a2.append b2)
    · exact h4.not.elim
  · split at h4
    · rename_i e1 e2
      obtain ⟨p, vs, _, rfl, a1, a2⟩ := h1.lst h2 e1
      obtain ⟨q, ws, _, rfl, b1, b2⟩ := h1.lst h3 e2
      split at h4
      · rename_i hz
        exact ⟨_, op_cat, p, q, vs, ws, rfl, rfl, a1, b1, by rw [a2.length, b2.length, sl_eq]; exact hz, h4.newL h1 (a2.append b2)⟩
      · exact h4.not.elim
    · exact h4.not.elim
  · exact h4.not.elim
theorem o_mul : OpQ X (binaryOp .Mult) mulv := .of_eq fun v w H Q φ m x y h1 h2 h3 h4 => by
  unfold mulv at h4
  split at h4
  · cases h2; cases h3
    split at h4
    · rename_i hz
      rcases hz with hz | hz
      · exact ⟨_, op_mul, _, _, rfl, rfl, (by rcases hz with z | z; exact .inl (by omega); exact .inr (by omega)), h4.same h1 rfl⟩
      exact ⟨_, op_mulW, _, _, rfl, rfl, wide_mul (a := 4096) (b := 4096) (by rw [← big_eq]; exact hz.1) (by rw [← big_eq]; exact hz.2) (by decide) (by decide) (by decide), h4.same h1 rfl⟩
    · exact h4.not.elim
  · exact h4.not.elim
theorem op_fdivB : OpR X (binaryOp .FloorDiv) (rI (fun _ j => j ≠ 0 ∧ j.natAbs < big) fun i j => .int (i.fdiv j)) := opI fun i j _ _ _ _ _ hc q =>
  floordiv_int hc.1 q (.inl (PyProof.noPylong_of_log2 (Nat.lt_trans (log2_big hc.2) (by decide))))
theorem o_fdiv : OpQ X (binaryOp .FloorDiv) fdivv := .of_eq fun v w H Q φ m x y h1 h2 h3 h4 => by
  unfold fdivv at h4
  split at h4
  · cases h2; cases h3
    split at h4
    · rename_i hz
      exact ⟨_, op_fdivB, _, _, rfl, rfl, hz, h4.same h1 rfl⟩
    · exact h4.not.elim
  · exact h4.not.elim
theorem o_mod : OpQ X (binaryOp .Mod) modv := .of_eq fun v w H Q φ m x y h1 h2 h3 h4 => by
  unfold modv at h4
  split at h4
  · cases h2; cases h3
    split at h4
    · rename_i hz
      exact ⟨_, op_modN, _, _, rfl, rfl, hz, h4.same h1 rfl⟩
    · exact h4.not.elim
  · exact h4.not.elim
theorem o_pow : OpQ X (binaryOp .Pow) powv := .of_eq fun v w H Q φ m x y h1 h2 h3 h4 => by
  unfold powv at h4
  split at h4
  · cases h2; cases h3
    split at h4
    · rename_i hz
      exact ⟨_, op_pow, _, _, rfl, rfl, ⟨hz.1, by omega, hz.2.2⟩, h4.same h1 rfl⟩
    · exact h4.not.elim
  · exact h4.not.elim
theorem o_neg : UnQ X (unaryOp .USub) negv := by
  intro pins s σ H v vv Q I rv ⟨φ, m, x, h1, h2, h4⟩
  unfold negv at h4
  split at h4
  · cases h2
    exact un_neg pins s σ H _ vv Q I rv ⟨_, rfl, h4.same h1 rfl⟩
  · exact h4.not.elim
end
def eqF : PV → PV → Option Bool
  | .non, .non => some true | .int a, .int b => some (decide (a = b)) | .bl a, .bl b => some (decide (a = b)) | .str a, .str b => some (decide (a = b))
  | .non, .int _ => some false | .int _, .non => some false | .non, .bl _ => some false | .bl _, .non => some false | .non, .str _ => some false | .str _, .non => some false
  | .int _, .str _ => some false | .str _, .int _ => some false | .bl _, .str _ => some false | .str _, .bl _ => some false
  | _, _ => none
def cmpI (f : Int → Int → Bool) : PV → PV → MH → OR
  | .int a, .int b, m => some (.bl (f a b), m)
  | _, _, _ => none
def isNon : PV → Bool
  | .non => true
  | _ => false
def isNv : PV → PV → MH → OR
  | x, .non, m => some (.bl (isNon x), m)
  | _, _, _ => none
def notNv : PV → PV → MH → OR
  | x, .non, m => some (.bl (!isNon x), m)
  | _, _, _ => none
theorem rv_non {K : PySem.W.Frag} {H : Hp} {φ : List Addr} : ∀ {x : PV} {v : V}, RV K H φ x v → decide (v = V.non) = isNon x
  | .non, _, h => by cases h; rfl
  | .bl _, _, h => by cases h; rfl
  | .int _, _, h => by cases h; rfl
  | .str _, _, h => by cases h; rfl
  | .tup _, _, h => by obtain ⟨p, vs, rfl, _⟩ := h; rfl
  | .ref _, _, h => by obtain ⟨p, _, rfl⟩ := h; rfl
section
variable {X : Cx}
theorem eqF_scal {K : PySem.W.Frag} {H : Hp} {φ : List Addr} {x y : PV} {v w : V} {b : Bool} (h : eqF x y = some b) (r1 : RV K H φ x v) (r2 : RV K H φ y w) : scal v w = true ∧ decide (v = w) = b := by
  unfold eqF at h
  split at h <;> first
    | (cases h; cases r1; cases r2; refine ⟨rfl, ?_⟩; simp)
    | cases h
theorem o_ltI : OpQ X (compareOp .Lt) (cmpI fun a b => decide (a < b)) := .of_eq fun v w H Q φ m x y h1 h2 h3 h4 => by
  unfold cmpI at h4
  split at h4
  · cases h2; cases h3
    exact ⟨_, op_lt, _, _, rfl, rfl, h4.same h1 rfl⟩
  · exact h4.not.elim
theorem o_leI : OpQ X (compareOp .LtE) (cmpI fun a b => decide (a ≤ b)) := .of_eq fun v w H Q φ m x y h1 h2 h3 h4 => by
  unfold cmpI at h4
  split at h4
  · cases h2; cases h3
    exact ⟨_, op_le, _, _, rfl, rfl, h4.same h1 rfl⟩
  · exact h4.not.elim
theorem o_gtI : OpQ X (compareOp .Gt) (cmpI fun a b => decide (b < a)) := .of_eq fun v w H Q φ m x y h1 h2 h3 h4 => by
  unfold cmpI at h4
  split at h4
  · cases h2; cases h3
    exact ⟨_, op_gt, _, _, rfl, rfl, h4.same h1 rfl⟩
  · exact h4.not.elim
theorem o_geI : OpQ X (compareOp .GtE) (cmpI fun a b => decide (b ≤ a)) := .of_eq fun v w H Q φ m x y h1 h2 h3 h4 => by
  unfold cmpI at h4
  split at h4
  · cases h2; cases h3
    exact ⟨_, op_ge, _, _, rfl, rfl, h4.same h1 rfl⟩
  · exact h4.not.elim
theorem o_is : OpQ X (compareOp .Is) isNv := .of_eq fun v w H Q φ m x y h1 h2 h3 h4 => by
  unfold isNv at h4
  split at h4
  · cases h3
    exact ⟨_, op_isN, rfl, by rw [rv_non h2]; exact h4.same h1 rfl⟩
  · exact h4.not.elim
theorem o_isnot : OpQ X (compareOp .IsNot) notNv := .of_eq fun v w H Q φ m x y h1 h2 h3 h4 => by
  unfold notNv at h4
  split at h4
  · cases h3
    exact ⟨_, op_notN, rfl, by rw [rv_non h2]; exact h4.same h1 rfl⟩
  · exact h4.not.elim
end
end SM
set_option Elab.async false
set_option linter.all false
set_option maxRecDepth 100000
set_option maxHeartbeats 1000000
namespace SM
open PySem PySem.Spec PyProof.Rows L2
@[simp] def allO {α : Type} : List (Option α) → Option (List α)
  | [] => some []
  | some x :: r => (allO r).map (x :: ·)
  | none :: _ => none
def toD (m : MH) : Nat → PV → Option PyData
  | 0, .non => some .none
  | 0, .bl b => some (.bool b)
  | 0, .int i => some (.int i)
  | 0, .str s => some (.str ⟨s.toArray⟩)
  | 0, _ => none
  | n + 1, .non => some .none
  | n + 1, .bl b => some (.bool b)
  | n + 1, .int i => some (.int i)
  | n + 1, .str s => some (.str ⟨s.toArray⟩)
  | n + 1, .tup xs => (allO (xs.map (toD m n))).map .tuple
  | n + 1, .ref i => match seq? m i with
    | some xs => (allO (xs.map (toD m n))).map .list
    | none => none
section
variable {K : PySem.W.Frag} {H : Hp} {φ : List Addr} {m : MH}
theorem dpAll {f : PV → Option PyData} (hf : ∀ x v d, RV K H φ x v → f x = some d → Dp K H v d) : ∀ (xs : List PV) (vs : List V) (ds : List PyData), RVs K H φ xs vs → allO (xs.map f) = some ds → DpAll K H vs ds
  | [], vs, ds, h, e => by cases h; cases e; exact .nil
  | x :: xs, vs, ds, h, e => by
    obtain ⟨v, r, rfl, h1, h2⟩ := h
    simp only [List.map_cons] at e
    cases hx : f x with
    | none => rw [hx] at e; simp at e
    | some d =>
      rw [hx] at e
      cases hr : allO (xs.map f) with
      | none => simp [hr] at e
      | some dr =>
        simp [hr] at e
        subst e
        exact .cons (hf _ _ _ h1 hx) (dpAll hf xs r dr h2 hr)
theorem dp_of (h : RH K H φ m) : ∀ (n : Nat) (x : PV) (v : V) (d : PyData), RV K H φ x v → toD m n x = some d → Dp K H v d
  | 0, .non, v, d, r, e => by cases r; cases e; exact .non
  | 0, .bl _, v, d, r, e => by cases r; cases e; exact .bl _
  | 0, .int _, v, d, r, e => by cases r; cases e; exact .int _
  | 0, .str _, v, d, r, e => by cases r; cases e; exact .str _
  | 0, .tup _, v, d, r, e => by cases e
  | 0, .ref _, v, d, r, e => by cases e
  | n + 1, .non, v, d, r, e => by cases r; cases e; exact .non
  | n + 1, .bl _, v, d, r, e => by cases r; cases e; exact .bl _
  | n + 1, .int _, v, d, r, e => by cases r; cases e; exact .int _
  | n + 1, .str _, v, d, r, e => by cases r; cases e; exact .str _
  | n + 1, .tup xs, v, d, r, e => by
    obtain ⟨a, vs, rfl, h1, h2⟩ := r
    simp only [toD] at e
    cases hr : allO (xs.map (toD m n)) with
    | none => simp [hr] at e
    | some ds =>
      simp [hr] at e
      subst e
      exact .tup h1 (dpAll (fun x v d r e => dp_of h n x v d r e) xs vs ds h2 hr)
  | n + 1, .ref i, v, d, r, e => by
    simp only [toD] at e
    cases hs : seq? m i with
    | none => rw [hs] at e; cases e
    | some xs =>
      rw [hs] at e
      obtain ⟨a, vs, rfl, h1, h2⟩ := h.seq r hs
      cases hr : allO (xs.map (toD m n)) with
      | none => simp [hr] at e
      | some ds =>
        simp [hr] at e
        subst e
        exact .lst h1 (dpAll (fun x v d r e => dp_of h n x v d r e) xs vs ds h2 hr)
end
/-- two values as data: equal or not -/
def eqD (m : MH) (x y : PV) : Option Bool := match toD m 8 x, toD m 8 y with
  | some d, some e => if SeqAt.shaped d = true ∧ SeqAt.shaped e = true then some (PyData.eqv d e) else none
  | _, _ => none
def eqV (m : MH) (x y : PV) : Option Bool := match eqF x y with
  | some b => some b
  | none => eqD m x y
def eqv : PV → PV → MH → OR := fun x y m => (eqV m x y).map fun b => (.bl b, m)
def nev : PV → PV → MH → OR := fun x y m => (eqV m x y).map fun b => (.bl (!b), m)
/-- x in a list, as data -/
def inD (m : MH) (x y : PV) : Option Bool := match toD m 8 x, y with
  | some d, .ref i => match toD m 8 (.ref i) with
    | some (.list ds) => if SeqAt.shaped d = true ∧ SeqAt.shaped (.list ds) = true then some (ds.any fun z => PyData.eqv z d) else none
    | _ => none
  | _, _ => none
def inv : PV → PV → MH → OR := fun x y m => (inD m x y).map fun b => (.bl b, m)
section
variable {X : Cx} {k : Nat}
theorem o_eq (hr : Room k X.A) : OpQ X (compareOp .Eq) eqv := .of_eq fun v w H Q φ m x y h1 h2 h3 h4 => by
  unfold eqv eqV at h4
  cases hf : eqF x y with
  | some b =>
    rw [hf] at h4
    obtain ⟨s1, s2⟩ := eqF_scal hf h2 h3
    exact ⟨_, op_eq, s1, by rw [s2]; exact h4.same h1 rfl⟩
  | none =>
    rw [hf] at h4
    unfold eqD at h4
    cases hx : toD m 8 x with
    | none => rw [hx] at h4; exact h4.not.elim
    | some d =>
      cases hy : toD m 8 y with
      | none => rw [hx, hy] at h4; exact h4.not.elim
      | some e =>
        rw [hx, hy] at h4
        simp only at h4
        split at h4
        · rename_i hz
          exact ⟨_, op_eqD hr.units, d, e, dp_of h1 8 x v d h2 hx, dp_of h1 8 y w e h3 hy, hz.1, hz.2, h4.same h1 rfl⟩
        · exact h4.not.elim
theorem o_ne (hr : Room k X.A) : OpQ X (compareOp .NotEq) nev := .of_eq fun v w H Q φ m x y h1 h2 h3 h4 => by
  unfold nev eqV at h4
  cases hf : eqF x y with
  | some b =>
    rw [hf] at h4
    obtain ⟨s1, s2⟩ := eqF_scal hf h2 h3
    exact ⟨_, op_ne, s1, by rw [s2]; exact h4.same h1 rfl⟩
  | none =>
    rw [hf] at h4
    unfold eqD at h4
    cases hx : toD m 8 x with
    | none => rw [hx] at h4; exact h4.not.elim
    | some d =>
      cases hy : toD m 8 y with
      | none => rw [hx, hy] at h4; exact h4.not.elim
      | some e =>
        rw [hx, hy] at h4
        simp only at h4
        split at h4
        · rename_i hz
          exact ⟨_, op_neD hr.units, d, e, dp_of h1 8 x v d h2 hx, dp_of h1 8 y w e h3 hy, hz.1, hz.2, h4.same h1 rfl⟩
        · exact h4.not.elim
theorem o_in (hr : Room k X.A) : OpQ X (compareOp .In) inv := .of_eq fun v w H Q φ m x y h1 h2 h3 h4 => by
  unfold inv inD at h4
  split at h4
  · rename_i d i hx
    split at h4
    · rename_i ds hy
      split at h4
      · rename_i hz
        exact ⟨_, op_inD (by have := hr.un; omega), d, ds, dp_of h1 8 x v d h2 hx, dp_of h1 8 _ w _ h3 hy, hz.1, hz.2, h4.same h1 rfl⟩
      · exact h4.not.elim
    · exact h4.not.elim
  · exact h4.not.elim
end
def ixv : PV → PV → MH → OR
  | .ref n, .int i, m => match seq? m n with
    | some xs => (atI xs i).map fun x => (x, m)
    | none => none
  | .tup xs, .int i, m => (atI xs i).map fun x => (x, m)
  | .str s, .int i, m => if s.length ≤ 16777216 then (atI s i).map fun c => (.str [c], m) else none
  | _, _, _ => none
def setv : PV → PV → PV → MH → Option MH
  | .ref n, .int i, v, m => match lst? m n with
    | some xs => (ixN xs.length i).map fun j => m.set n (.lst (xs.set j v))
    | none => none
  | _, _, _, _ => none
section
variable {X : Cx} {W : XM} {a b : Expr} {sa sb : SE} {pos : Pos}
theorem RVs.atI {K : PySem.W.Frag} {H : Hp} {φ : List Addr} {xs : List PV} {vs : List V} {i : Int} {x : PV} (h : RVs K H φ xs vs) (e : L2.atI xs i = some x) : ∃ v, L2.atI vs i = some v ∧ RV K H φ x v := by
  unfold L2.atI at e ⊢
  rw [h.length]
  cases hx : ixN xs.length i with
  | none => rw [hx] at e; cases e
  | some j =>
    rw [hx] at e
    obtain ⟨v, h1, h2⟩ := h.get (i := j) (x := x) e
    exact ⟨v, h1, h2⟩
theorem IxR.ofQ {op : PV → PV → MH → OR} (h : ∀ (v w : V) (H : Hp) (Q : VK) φ m x y, RH X.K H φ m → RV X.K H φ x v → RV X.K H φ y w → PostO X.K φ H (op x y m) Q → ∃ r : R2, IxR X r ∧ r v w H Q) :
    IxR X (fun v w H Q => ∃ φ m x y, RH X.K H φ m ∧ RV X.K H φ x v ∧ RV X.K H φ y w ∧ PostO X.K φ H (op x y m) Q) := by
  intro value slice pins s σ H x y v u Q I rx ry ⟨φ, m, px, py, h1, h2, h3, h4⟩ hs
  obtain ⟨r, hr, q⟩ := h x y H Q φ m px py h1 h2 h3 h4
  exact hr value slice pins s σ H x y v u Q I rx ry q hs
theorem o_ix : IxR X (fun v w H Q => ∃ φ m x y, RH X.K H φ m ∧ RV X.K H φ x v ∧ RV X.K H φ y w ∧ PostO X.K φ H (ixv x y m) Q) := IxR.ofQ fun v w H Q φ m x y h1 h2 h3 h4 => by
  unfold ixv at h4
  split at h4
  · rename_i n i
    cases h3
    split at h4
    · rename_i xs hs
      obtain ⟨p, vs, rfl, q1, q2⟩ := h1.seq h2 hs
      cases hx : L2.atI xs i with
      | none => rw [hx] at h4; exact h4.not.elim
      | some x =>
        rw [hx] at h4
        obtain ⟨v, e1, e2⟩ := q2.atI hx
        exact ⟨_, ix_list, p, vs, i, v, rfl, rfl, q1, e1, h4.same h1 e2⟩
    · exact h4.not.elim
  · rename_i xs i
    cases h3
    obtain ⟨p, vs, rfl, q1, q2⟩ := h2
    cases hx : L2.atI xs i with
    | none => rw [hx] at h4; exact h4.not.elim
    | some x =>
      rw [hx] at h4
      obtain ⟨v, e1, e2⟩ := q2.atI hx
      exact ⟨_, ix_tup, p, vs, i, v, rfl, rfl, q1, e1, h4.same h1 e2⟩
  · rename_i s i
    cases h2; cases h3
    split at h4
    · rename_i hz
      cases hx : L2.atI s i with
      | none => rw [hx] at h4; exact h4.not.elim
      | some x =>
        rw [hx] at h4
        exact ⟨_, ix_str, _, i, x, rfl, rfl, by rw [str_len, sl_eq]; exact hz, by simpa using hx, h4.same h1 rfl⟩
    · exact h4.not.elim
  · exact h4.not.elim
theorem q_ix (ha : QE X W a sa) (hb : QE X W b sb) (hs : PlainIx b) : QE X W (.Subscript a b pos) (sOp ixv sa sb) :=
  ⟨pe_imp (pe_ix o_ix ha.pe hb.pe hs) fun σ H Q h => (two h).mono fun v H1 h1 => Rdg.mono h1 fun w H2 ⟨φ, m, x, y, _, c1, c2, c3, c4⟩ => ⟨φ, m, x, y, c1, c2, c3, .of c4⟩⟩
variable {e : Expr} {es : List Expr} {se : SE} {ses : SA}
def aNil : SA := fun _ m => .ok [] m
def aCons (a : SE) (r : SA) : SA := fun l m => (a l m).bind fun x m1 => (r l m1).bind fun xs m2 => .ok (x :: xs) m2
theorem a_nil : QA X W [] aNil := ⟨pa_imp pa_nil fun σ H Q ⟨φ, l, m, h1, h2, h3⟩ => h3 φ H [] Ext.refl h1 rfl⟩
theorem a_cons (he : QE X W e se) (hr : QA X W es ses) (hs : starEach (e :: es) X.env = (false, eval e X.env) :: starEach es X.env := by rfl) : QA X W (e :: es) (aCons se ses) :=
  ⟨pa_imp (pa_cons he.pe hr.pa hs) fun σ H Q ⟨φ, l, m, h1, h2, h3⟩ => ⟨φ, l, m, h1, h2, (Post.bind (rel := rV X.K) h2 h3).mono fun v H1 ⟨φ1, x, m1, e1, a1, b1, c1, d1⟩ =>
    ⟨φ1, l, m1, a1, b1, (Post.bind (rel := rA X.K) b1 d1).mono fun vs H2 ⟨φ2, xs, m2, e2, a2, b2, c2, d2⟩ => d2 φ2 H2 (v :: vs) Ext.refl a2 ⟨v, vs, rfl, RV.ext e2 c1, c2⟩⟩⟩⟩
theorem oneA {K : PySem.W.Frag} {a : SA} {σ : L2.St} {H : Hp} {α β : Type} {rel : SM.Rel α β} {k : List PV → MH → R α} {Q : β → Hp → Prop} (h : Rdg K rel W (fun l m => (a l m).bind fun x m1 => k x m1) σ H Q) :
    Rdg K (rA K) W a σ H fun v H1 => ∃ φ m x l, RH K H1 φ m ∧ RVs K H1 φ x v ∧ Post K rel W φ l σ H1 (k x m) Q := by
  obtain ⟨φ, l, m, h1, h2, h3⟩ := h
  refine ⟨φ, l, m, h1, h2, (Post.bind (rel := rA K) h2 h3).mono ?_⟩
  rintro v H1 ⟨φ1, x, m1, e1, a1, b1, c1, d1⟩
  exact ⟨φ1, m1, x, l, a1, c1, d1⟩
def sTup (s : SA) : SE := fun l m => (s l m).bind fun xs m1 => if xs.length ≤ 16777216 then .ok (.tup xs) m1 else .bad
def sLst (s : SA) : SE := fun l m => (s l m).bind fun xs m1 => if xs.length ≤ 16777216 then .ok (.ref m1.length) (m1 ++ [.lst xs]) else .bad
theorem q_tup {x1} (h : QA X W es ses) : QE X W (.Tuple es x1 pos) (sTup ses) := ⟨pe_imp (pe_tup h.pa) fun σ H Q q => (oneA q).mono fun vs H1 ⟨φ, m, xs, _, c1, c2, c3⟩ => by
  by_cases hz : xs.length ≤ 16777216
  · rw [if_pos hz] at c3
    exact ⟨by rw [c2.length, sl_eq]; exact hz, fun p np => by
      obtain ⟨e, a, b⟩ := c1.newT np c2
      exact c3 _ _ _ e a b⟩
  · rw [if_neg hz] at c3
    exact c3.elim⟩
theorem q_lst (h : QA X W es ses) : QE X W (.List es pos) (sLst ses) := ⟨pe_imp (pe_lst h.pa) fun σ H Q q => (oneA q).mono fun vs H1 ⟨φ, m, xs, _, c1, c2, c3⟩ => by
  by_cases hz : xs.length ≤ 16777216
  · rw [if_pos hz] at c3
    exact ⟨by rw [c2.length, sl_eq]; exact hz, fun p np => by
      obtain ⟨e, a, b⟩ := c1.newL np c2
      exact c3 _ _ _ e a b⟩
  · rw [if_neg hz] at c3
    exact c3.elim⟩
def CrQ (X : Cx) (f : Value) (op : List PV → MH → OR) : Prop := CallR X f fun vs H Q => ∃ φ m xs, RH X.K H φ m ∧ RVs X.K H φ xs vs ∧ PostO X.K φ H (op xs m) Q
def MtQ (X : Cx) (id : String) (op : PV → List PV → MH → OR) : Prop := MtR X id fun v vs H Q => ∃ φ m x xs, RH X.K H φ m ∧ RV X.K H φ x v ∧ RVs X.K H φ xs vs ∧ PostO X.K φ H (op x xs m) Q
def sCall (op : List PV → MH → OR) (a : SA) : SE := fun l m => (a l m).bind fun xs m1 => lift (op xs m1)
variable {x : Str} {p : Pos} {id T : String} {op : List PV → MH → OR}
theorem q_callB (hc : CrQ X (.builtin id) op) (hg : Gl X x) (hm : X.mg x = none) (hv : bootBuiltins x = some (.builtin id)) (ha : QA X W (e :: es) ses) (hn : x ≠ "__name__" := by decide) (hdb : (x == ("__debug__" : Str)) = false := by decide)
    (he : starEach (e :: es) X.env = (false, eval e X.env) :: starEach es X.env := by rfl) (hpl : (backTo pos (starEach es X.env)).any (·.1) = false := by rfl) : QE X W (.Call (.Name x p) (e :: es) [] pos) (sCall op ses) :=
  ⟨pe_imp (pe_callB hc hg hm hv ha.pa hn hdb he hpl) fun σ H Q q => (oneA q).mono fun vs H1 ⟨φ, m, xs, _, c1, c2, c3⟩ => ⟨φ, m, xs, c1, c2, .of c3⟩⟩
theorem q_callTy (hc : CrQ X (.type T) op) (hg : Gl X x) (hm : X.mg x = none) (hv : bootBuiltins x = some (.type T)) (ha : QA X W (e :: es) ses) (hn : x ≠ "__name__" := by decide) (hdb : (x == ("__debug__" : Str)) = false := by decide)
    (he : starEach (e :: es) X.env = (false, eval e X.env) :: starEach es X.env := by rfl) (hpl : (backTo pos (starEach es X.env)).any (·.1) = false := by rfl) : QE X W (.Call (.Name x p) (e :: es) [] pos) (sCall op ses) :=
  ⟨pe_imp (pe_callTy hc hg hm hv ha.pa hn hdb he hpl) fun σ H Q q => (oneA q).mono fun vs H1 ⟨φ, m, xs, _, c1, c2, c3⟩ => ⟨φ, m, xs, c1, c2, .of c3⟩⟩
theorem CrQ.of {f : Value} {op : List PV → MH → OR} (h : ∀ (vs : List V) (H : Hp) (Q : VK) φ m xs, RH X.K H φ m → RVs X.K H φ xs vs → PostO X.K φ H (op xs m) Q → ∃ r, CallR X f r ∧ r vs H Q) : CrQ X f op := by
  intro pins s σ H xs us Q I rs ⟨φ, m, ps, h1, h2, h3⟩
  obtain ⟨r, hr, q⟩ := h xs H Q φ m ps h1 h2 h3
  exact hr pins s σ H xs us Q I rs q
theorem MtQ.of {op : PV → List PV → MH → OR} (h : ∀ (v : V) (vs : List V) (H : Hp) (Q : VK) φ m x xs, RH X.K H φ m → RV X.K H φ x v → RVs X.K H φ xs vs → PostO X.K φ H (op x xs m) Q → ∃ r, MtR X id r ∧ r v vs H Q) : MtQ X id op := by
  intro pins s σ H x xs v us Q I rx rs ⟨φ, m, px, ps, h1, h2, h3, h4⟩
  obtain ⟨r, hr, q⟩ := h x xs H Q φ m px ps h1 h2 h3 h4
  exact hr pins s σ H x xs v us Q I rx rs q
theorem RVs.one {K : PySem.W.Frag} {H : Hp} {φ : List Addr} {x : PV} {vs : List V} (h : RVs K H φ [x] vs) : ∃ v, vs = [v] ∧ RV K H φ x v := by
  obtain ⟨v, r, rfl, h1, h2⟩ := h
  cases h2
  exact ⟨v, rfl, h1⟩
def lenv : List PV → MH → OR
  | [.ref n], m => (seq? m n).map fun xs => (.int xs.length, m)
  | [.tup xs], m => some (.int xs.length, m)
  | [.str s], m => if s.length ≤ 16777216 then some (.int s.length, m) else none
  | _, _ => none
theorem c_len : CrQ X (.builtin "len") lenv := .of fun vs H Q φ m xs h1 h2 h4 => by
  unfold lenv at h4
  split at h4
  · rename_i n
    obtain ⟨v, rfl, r⟩ := h2.one
    cases hs : seq? m n with
    | none => rw [hs] at h4; exact h4.not.elim
    | some xs =>
      rw [hs] at h4
      obtain ⟨p, vs, rfl, q1, q2⟩ := h1.seq r hs
      exact ⟨_, call_len_seq, p, vs, rfl, .inl q1, by rw [q2.length]; exact h4.same h1 rfl⟩
  · obtain ⟨v, rfl, p, vs, rfl, q1, q2⟩ := h2.one
    exact ⟨_, call_len_seq, p, vs, rfl, .inr q1, by rw [q2.length]; exact h4.same h1 rfl⟩
  · obtain ⟨v, rfl, r⟩ := h2.one
    cases r
    split at h4
    · rename_i hz
      exact ⟨_, call_len_str, _, rfl, by rw [str_len, sl_eq]; exact hz, by rw [str_len]; exact h4.same h1 rfl⟩
    · exact h4.not.elim
  · exact h4.not.elim
def absv : List PV → MH → OR
  | [.int i], m => some (.int (if i < 0 then -i else i), m)
  | _, _ => none
def max2v : List PV → MH → OR
  | [.int i, .int j], m => some (.int (if j > i then j else i), m)
  | _, _ => none
def min2v : List PV → MH → OR
  | [.int i, .int j], m => some (.int (if j < i then j else i), m)
  | _, _ => none
def intv : List PV → MH → OR
  | [.int i], m => some (.int i, m)
  | [.bl b], m => some (.int (if b then 1 else 0), m)
  | _, _ => none
theorem c_int : CrQ X (.type "int") intv := .of fun vs H Q φ m xs h1 h2 h4 => by
  unfold intv at h4
  split at h4
  · obtain ⟨v, rfl, r⟩ := h2.one
    cases r
    exact ⟨_, call_int1, .inl ⟨_, rfl, h4.same h1 rfl⟩⟩
  · obtain ⟨v, rfl, r⟩ := h2.one
    cases r
    exact ⟨_, call_int1, .inr ⟨_, rfl, h4.same h1 rfl⟩⟩
  · exact h4.not.elim
def gcdv : List PV → MH → OR
  | [.int i, .int j], m => some (.int (Nat.gcd i.natAbs j.natAbs : Nat), m)
  | _, _ => none
def tyName : PV → String
  | .non => "NoneType" | .bl _ => "bool" | .int _ => "int" | .str _ => "str" | .tup _ => "tuple" | .ref _ => "list"
def okTy (m : MH) : PV → Bool
  | .ref n => (seq? m n).isSome
  | _ => true
def isTab : String → String → Bool
  | "bool", "int" => true
  | a, b => a == b
theorem tyx_of {K : PySem.W.Frag} {H : Hp} {φ : List Addr} {m : MH} (h : RH K H φ m) : ∀ {x : PV} {v : V}, RV K H φ x v → okTy m x = true → TyX K H v (.type (tyName x))
  | .non, _, r, _ => by cases r; exact .base .non
  | .bl _, _, r, _ => by cases r; exact .base (.bl _)
  | .int _, _, r, _ => by cases r; exact .base (.int _)
  | .str _, _, r, _ => by cases r; exact .base (.str _)
  | .tup xs, v, r, _ => by
    obtain ⟨p, vs, rfl, q1, q2⟩ := r
    rcases q1 with (q | ⟨o, q⟩) | ⟨o, its, n, q, c, _⟩
    · exact .base (.tup q)
    · exact .fTuple q
    · exact .kTuple q c
  | .ref n, v, r, hk => by
    simp only [okTy] at hk
    cases hs : seq? m n with
    | none => rw [hs] at hk; cases hk
    | some xs =>
      obtain ⟨p, vs, rfl, q1, q2⟩ := h.seq r hs
      rcases q1 with (q | ⟨o, q⟩) | ⟨o, its, n, q, c, _⟩
      · exact .base (.lst q)
      · exact .base (.frz q)
      · exact .kList q c
theorem kit_tab : ∀ a ∈ ["NoneType", "bool", "int", "str", "tuple", "list"], ∀ T ∈ ["list", "tuple", "bool", "str", "int"], kitB a T = some (isTab a T) := by decide +kernel
theorem kit_all {K : PySem.W.Frag} {T : String} (hT : T = "list" ∨ T = "tuple" ∨ T = "bool" ∨ T = "str" ∨ T = "int") (x : PV) : PySem.W.kitOne K (.type (tyName x)) (.type T) = some (isTab (tyName x) T) := by
  refine kit_ty (kit_tab _ ?_ _ ?_)
  · cases x <;> simp [tyName]
  · simpa using hT
def sIsi (T : String) (a : SE) : SE := fun l m => (a l m).bind fun x m1 => if okTy m1 x = true then .ok (.bl (isTab (tyName x) T)) m1 else .bad
theorem q_isi {Tn : Str} {pT : Pos} (hT : T = "list" ∨ T = "tuple" ∨ T = "bool" ∨ T = "str" ∨ T = "int") (hg : Gl X "isinstance") (hm : X.mg "isinstance" = none) (hgT : Gl X Tn) (hmT : X.mg Tn = none) (hvT : bootBuiltins Tn = some (.type T)) (ha : QE X W a sa)
    (hn : Tn ≠ "__name__" := by decide) (hd : (Tn == ("__debug__" : Str)) = false := by decide)
    (he : starEach [a, .Name Tn pT] X.env = [(false, eval a X.env), (false, eval (.Name Tn pT) X.env)] := by rfl)
    (he2 : starEach [.Name Tn pT] X.env = [(false, eval (.Name Tn pT) X.env)] := by rfl) :
    QE X W (.Call (.Name "isinstance" p) [a, .Name Tn pT] [] pos) (sIsi T sa) :=
  ⟨pe_imp (pe_callB call_isi hg hm (by decide +kernel) (pa_cons ha.pe (pa_cons (pe_bltn (v := .ty T) hgT hmT hvT rfl hn hd) pa_nil (by rw [he2] <;> rfl)) (by rw [he, he2])) (by decide) (by decide) (by rw [he, he2]) (by rw [he2] <;> rfl)) fun σ H Q h => (one h).mono fun v H1 ⟨φ, m, x, _, c1, c2, c4⟩ => by
    by_cases hk : okTy m x = true
    · rw [if_pos hk] at c4
      exact ⟨v, .ty T, _, _, _, rfl, .ty T, tyx_of c1 c2 hk, kit_all hT x, c4 φ H1 _ Ext.refl c1 rfl⟩
    · rw [if_neg hk] at c4
      exact c4.elim⟩
def isLst (m : MH) : PV → Bool
  | .ref n => (seq? m n).isSome
  | _ => false
def sMeth (ty : MH → PV → Bool) (op : PV → List PV → MH → OR) (o : SE) (a : SA) : SE := fun l m => (o l m).bind fun x m1 => if ty m1 x = true then (a l m1).bind fun xs m2 => lift (op x xs m2) else .bad
def TyQ (X : Cx) (T : String) (ty : MH → PV → Bool) : Prop := ∀ H φ m x v, RH X.K H φ m → RV X.K H φ x v → ty m x = true → tyV X.K T v H
theorem ty_list : TyQ X "list" isLst := fun H φ m x v h r e => by
  cases x with
  | ref n =>
    simp only [isLst] at e
    cases hs : seq? m n with
    | none => rw [hs] at e; cases e
    | some xs =>
      obtain ⟨p, vs, rfl, q1, q2⟩ := h.seq r hs
      exact .inl ⟨rfl, vs, q1⟩
  | _ => cases e
variable {o : Expr} {name : Str} {apos cpos : Pos} {ty : MH → PV → Bool} {mop : PV → List PV → MH → OR} {so : SE}
theorem q_m (hty : TyQ X T ty) (pa : PlainAttrs T) (slot : Slot T name id) (hty' : typeOf (.builtin id) = pure (.type "method_descriptor")) (hm : MtQ X id mop) (ho : QE X W o so) (ha : QA X W (e :: es) ses)
    (hbase : attributeBase o name X.env (eval o X.env) = eval o X.env := by rfl)
    (hfew : ((backTo cpos (starEach (e :: es) X.env)).all (fun x => !x.1) && (backToKw cpos (keywordEach [] X.env)).all (fun x => x.1.isSome)
      && decide ((e :: es).length + ([] : List Keyword).length + (if ([] : List Keyword).isEmpty then 0 else 1) < 30)) = true := by rfl)
    (hline : (apos.endLine == cpos.line) = true := by rfl) (hs : starEach (e :: es) X.env = (false, eval e X.env) :: starEach es X.env := by rfl) (hplain : (backTo cpos (starEach es X.env)).any (·.1) = false := by rfl) :
    QE X W (.Call (.Attribute o name apos) (e :: es) [] cpos) (sMeth ty mop so ses) :=
  ⟨pe_imp (pe_bm pa slot hty' hm ho.pe ha.pa hbase hfew hline hs hplain) fun σ H Q ⟨φ, l, m, h1, h2, h3⟩ => ⟨φ, l, m, h1, h2, (Post.bind (rel := rV X.K) h2 h3).mono fun v H1 ⟨φ1, x, m1, e1, a1, b1, c1, d1⟩ => by
    by_cases hk : ty m1 x = true
    · rw [if_pos hk] at d1
      exact ⟨hty _ _ _ _ _ a1 c1 hk, φ1, l, m1, a1, b1, (Post.bind (rel := rA X.K) b1 d1).mono fun vs H2 ⟨φ2, xs, m2, e2, a2, b2, c2, d2⟩ => ⟨φ2, m2, x, xs, a2, RV.ext e2 c1, c2, .of d2⟩⟩
    · rw [if_neg hk] at d1
      exact d1.elim⟩⟩
def appendv : PV → List PV → MH → OR
  | .ref n, [y], m => match lst? m n with
    | some xs => if xs.length < 16777216 then some (.non, m.set n (.lst (xs ++ [y]))) else none
    | none => none
  | _, _, _ => none
theorem m_append : MtQ X "list.append" appendv := .of fun v vs H Q φ m x xs h1 h2 h3 h4 => by
  unfold appendv at h4
  split at h4
  · rename_i n y
    split at h4
    · rename_i ys hs
      split at h4
      · rename_i hz
        obtain ⟨w, rfl, r⟩ := h3.one
        obtain ⟨p, ws, e1, rfl, q1, q2⟩ := h1.lst h2 hs
        obtain ⟨z, m', e, q⟩ := h4
        cases e
        refine ⟨_, mt_append, p, ws, w, rfl, rfl, q1, by rw [q2.length, sl_eq]; exact hz, ?_⟩
        obtain ⟨e2, e3⟩ := h1.setL e1 (lst_some hs) (q2.append (show RVs X.K H φ [y] [w] from ⟨w, [], rfl, r, rfl⟩))
        exact q _ _ _ e2 e3 rfl
      · exact h4.not.elim
    · exact h4.not.elim
  · exact h4.not.elim
end
end SM
set_option Elab.async false
set_option linter.all false
set_option maxRecDepth 100000
set_option maxHeartbeats 1000000
namespace SM
open PySem PySem.Spec PyProof.Rows L2
def asB : PV → MH → R Bool
  | .bl b, m => .ok b m
  | _, _ => .bad
def truv (m : MH) : PV → Option Bool
  | .non => some false
  | .bl b => some b
  | .int i => some (i != 0)
  | .str s => if s.length ≤ 16777216 then some (!s.isEmpty) else none
  | .tup xs => some (!xs.isEmpty)
  | .ref n => (seq? m n).map fun xs => !xs.isEmpty
def tTru (s : SE) : SB := fun l m => (s l m).bind fun x m1 => match truv m1 x with
  | some b => .ok b m1
  | none => .bad
def tBool (s : SE) : SB := fun l m => (s l m).bind asB
def tNotS (s : SB) : SB := fun l m => (s l m).bind fun b m1 => .ok (!b) m1
def tAndS (s t : SB) : SB := fun l m => (s l m).bind fun b m1 => if b = true then t l m1 else .ok false m1
def tOrS (s t : SB) : SB := fun l m => (s l m).bind fun b m1 => if b = true then .ok true m1 else t l m1
def sChain (f g : PV → PV → MH → OR) (a b c : SE) : SE := fun l m => (a l m).bind fun x m1 => (b l m1).bind fun y m2 => (lift (f x y m2)).bind fun z m3 => (asB z m3).bind fun k m4 => if k = true then (c l m4).bind fun u m5 => lift (g y u m5) else .ok (.bl false) m4
def sIf (t : SB) (a b : SE) : SE := fun l m => (t l m).bind fun k m1 => if k = true then a l m1 else b l m1
def sAndV (a b : SE) : SE := fun l m => (a l m).bind fun x m1 => (asB x m1).bind fun k m2 => if k = true then b l m2 else .ok (.bl false) m2
def sOrV (a b : SE) : SE := fun l m => (a l m).bind fun x m1 => (asB x m1).bind fun k m2 => if k = true then .ok (.bl true) m2 else b l m2
def sNotV (a : SE) : SE := fun l m => (a l m).bind fun x m1 => (asB x m1).bind fun k m2 => .ok (.bl (!k)) m2
theorem isEmpty_len {α β : Type} {xs : List α} {ys : List β} (h : xs.length = ys.length) : xs.isEmpty = ys.isEmpty := by
  cases xs <;> cases ys <;> simp at h <;> rfl
section
variable {K : PySem.W.Frag} {H : Hp} {φ : List Addr} {m : MH} {W : XM} {l : Loc} {σ : L2.St}
theorem truv_of (h : RH K H φ m) : ∀ {x : PV} {v : V} {b : Bool}, RV K H φ x v → truv m x = some b → TruV K v H b
  | .non, _, _, r, e => by cases r; cases e; rfl
  | .bl _, _, _, r, e => by cases r; cases e; rfl
  | .int _, _, _, r, e => by cases r; cases e; rfl
  | .str s, _, b, r, e => by
    cases r
    simp only [truv] at e
    split at e
    · rename_i hz
      cases e
      refine ⟨by rw [str_len, sl_eq]; exact hz, ?_⟩
      rw [str_len]
      cases s with
      | nil => rfl
      | cons a s =>
        have hne : (((a :: s).length : Nat) : Int) ≠ 0 := by simp; omega
        rw [bne_iff_ne.mpr hne]; rfl
    · cases e
  | .tup xs, v, b, r, e => by
    obtain ⟨p, vs, rfl, q1, q2⟩ := r
    cases e
    exact .inr (.inl ⟨vs, q1, by rw [isEmpty_len q2.length]⟩)
  | .ref n, v, b, r, e => by
    simp only [truv] at e
    cases hs : seq? m n with
    | none => rw [hs] at e; cases e
    | some xs =>
      rw [hs] at e
      obtain ⟨p, vs, rfl, q1, q2⟩ := h.seq r hs
      cases e
      exact .inl ⟨vs, q1, by rw [isEmpty_len q2.length]⟩
theorem post_asB {x : PV} {v : V} {Q : Bool → Hp → Prop} (h1 : RH K H φ m) (r : RV K H φ x v) (h : Post K rB W φ l σ H (asB x m) Q) : ∃ k, v = .bl k ∧ Q k H := by
  unfold asB at h
  split at h
  · cases r
    exact ⟨_, rfl, h φ H _ Ext.refl h1 rfl⟩
  · exact h.elim
theorem post_asB' {α β : Type} {rel : Rel α β} {x : PV} {v : V} {k : Bool → MH → R α} {Q : β → Hp → Prop} (r : RV K H φ x v) (h : Post K rel W φ l σ H ((asB x m).bind k) Q) : ∃ c, v = .bl c ∧ Post K rel W φ l σ H (k c m) Q := by
  unfold asB at h
  split at h
  · cases r
    exact ⟨_, rfl, h⟩
  · exact h.elim
end
/-- how a heap op goes on -/
theorem PostO.bind {K : PySem.W.Frag} {W : XM} {φ : List Addr} {l : Loc} {σ : L2.St} {H : Hp} {o : OR} {α β : Type} {rel : Rel α β} {k : PV → MH → R α} {Q : β → Hp → Prop} (hl : RL K H φ l σ) (h : Post K rel W φ l σ H ((lift o).bind k) Q) :
    PostO K φ H o (fun v H1 => ∃ φ1 x m1, Ext K φ H φ1 H1 ∧ RH K H1 φ1 m1 ∧ RL K H1 φ1 l σ ∧ RV K H1 φ1 x v ∧ Post K rel W φ1 l σ H1 (k x m1) Q) := .of (Post.bind hl h)
section
variable {X : Cx} {W : XM} {a b c e : Expr} {sa sb sc s : SE} {ta tb : SB} {pos : Pos} {rest : List Expr}
theorem t_val (h : QE X W e s) (he : ∀ whole, isTrue e X.env whole = (do let v ← whole; standAt e.pos; holding [v] (truthy v)) := by intro _; rfl) : QT X W e (tTru s) :=
  ⟨pt_imp (pt_truth h.pe he) fun σ H Q q => (one q).mono fun v H1 ⟨φ, m, x, l, c1, c2, c3⟩ => by
    cases ht : truv m x with
    | none => rw [ht] at c3; exact c3.elim
    | some b =>
      rw [ht] at c3
      exact ⟨b, truv_of c1 c2 ht, c3 φ H1 b Ext.refl c1 rfl⟩⟩
theorem Rdg.asB' {σ : L2.St} {H : Hp} {Q : Bool → Hp → Prop} {K : PySem.W.Frag} (h : Rdg K rB W (tBool s) σ H Q) : Rdg K (rV K) W s σ H fun v H1 => ∃ k, v = .bl k ∧ Q k H1 := by
  obtain ⟨φ, l, m, h1, h2, h3⟩ := h
  refine ⟨φ, l, m, h1, h2, (Post.bind (rel := rV K) h2 h3).mono fun v H1 ⟨φ1, x, m1, e1, a1, b1, c1, d1⟩ => post_asB a1 c1 d1⟩
/-- a test's two readings -/
theorem t_cmp {op : CmpOp} {f : PV → PV → MH → OR} (ho : OpQ X (compareOp op) f) (ha : QE X W a sa) (hb : QE X W b sb) (hm : behindInMarks op b = false) : QT X W (.Compare a [op] [b] pos) (tBool (sOp f sa sb)) :=
  ⟨pt_imp (pt_cmpR ho ha.pe hb.pe hm) fun σ H Q h => (two (Rdg.asB' h)).mono fun v H1 h1 => Rdg.mono h1 fun w H2 ⟨φ, m, x, y, _, c1, c2, c3, c4⟩ => ⟨φ, m, x, y, c1, c2, c3, .of c4⟩⟩
theorem chain_at {f g : PV → PV → MH → OR} {α β : Type} {rel : SM.Rel α β} {kk : R PV → R α} {σ : L2.St} {H : Hp} {Q : VK} (h : Rdg X.K (rV X.K) W (sChain f g sa sb sc) σ H Q) :
    tChain (fun v w H Q => ∃ φ m x y, RH X.K H φ m ∧ RV X.K H φ x v ∧ RV X.K H φ y w ∧ PostO X.K φ H (f x y m) Q) (fun v w H Q => ∃ φ m x y, RH X.K H φ m ∧ RV X.K H φ x v ∧ RV X.K H φ y w ∧ PostO X.K φ H (g x y m) Q)
      (Rdg X.K (rV X.K) W sa) (Rdg X.K (rV X.K) W sb) (Rdg X.K (rV X.K) W sc) σ H Q := by
  obtain ⟨φ, l, m, h1, h2, h3⟩ := h
  refine ⟨φ, l, m, h1, h2, (Post.bind (rel := rV X.K) h2 h3).mono fun v H1 ⟨φ1, x, m1, e1, a1, b1, c1, d1⟩ => ⟨φ1, l, m1, a1, b1, (Post.bind (rel := rV X.K) b1 d1).mono fun w H2 ⟨φ2, y, m2, e2, a2, b2, c2, d2⟩ => ⟨φ2, m2, x, y, a2, RV.ext e2 c1, c2, ?_⟩⟩⟩
  obtain ⟨z, m3, e3, q3⟩ := PostO.bind b2 d2
  refine ⟨z, m3, e3, fun φ' H' v' f1 f2 f3 => ?_⟩
  obtain ⟨φ4, x4, m4, g1, g2, g3, g4, g5⟩ := q3 φ' H' v' f1 f2 f3
  obtain ⟨k, rfl, g6⟩ := post_asB' g4 g5
  refine ⟨k, rfl, ?_⟩
  cases k with
  | true =>
    refine iteT ⟨φ4, l, m4, g2, g3, (Post.bind (rel := rV X.K) g3 g6).mono fun u H5 ⟨φ5, u', m5, e5, a5, b5, c5, d5⟩ => ⟨φ5, m5, y, u', a5, RV.ext e5 (RV.ext g1 c2), c5, .of d5⟩⟩
  | false => exact iteF (g6 φ4 H' _ Ext.refl g2 rfl)
theorem q_chain {op op' : CmpOp} {f g : PV → PV → MH → OR} (ho : OpQ X (compareOp op) f) (ho' : OpQ X (compareOp op') g) (ha : QE X W a sa) (hb : QE X W b sb) (hc : QE X W c sc)
    (hm : lastMarks [op, op'] [b, c] = false := by with_unfolding_all rfl) : QE X W (.Compare a [op, op'] [b, c] pos) (sChain f g sa sb sc) :=
  ⟨pe_imp (pe_chain ho ho' ha.pe hb.pe hc.pe hm) fun σ H Q h => chain_at (rel := rB) (kk := fun _ => .bad) h⟩
theorem t_chain {op op' : CmpOp} {f g : PV → PV → MH → OR} (ho : OpQ X (compareOp op) f) (ho' : OpQ X (compareOp op') g) (ha : QE X W a sa) (hb : QE X W b sb) (hc : QE X W c sc)
    (hm : lastMarks [op, op'] [b, c] = false := by with_unfolding_all rfl) : QT X W (.Compare a [op, op'] [b, c] pos) (tBool (sChain f g sa sb sc)) :=
  ⟨pt_imp (pt_chain ho ho' ha.pe hb.pe hc.pe hm) fun σ H Q h => chain_at (rel := rB) (kk := fun _ => .bad) (Rdg.asB' h)⟩
/-- two tests in a row -/
theorem oneB {K : PySem.W.Frag} {a : SB} {σ : L2.St} {H : Hp} {α β : Type} {rel : SM.Rel α β} {k : Loc → Bool → MH → R α} {Q : β → Hp → Prop} (h : Rdg K rel W (fun l m => (a l m).bind fun x m1 => k l x m1) σ H Q) :
    Rdg K rB W a σ H fun v H1 => ∃ φ m l, RH K H1 φ m ∧ RL K H1 φ l σ ∧ Post K rel W φ l σ H1 (k l v m) Q := by
  obtain ⟨φ, l, m, h1, h2, h3⟩ := h
  refine ⟨φ, l, m, h1, h2, (Post.bind (rel := rB) h2 h3).mono ?_⟩
  rintro v H1 ⟨φ1, x, m1, e1, a1, b1, rfl, d1⟩
  exact ⟨φ1, m1, l, a1, b1, d1⟩
theorem w_and1 (ha : QT X W a ta) : QW X W (.BoolOp .And [a] pos) ta := ⟨pw_imp (pw_and1 ha.pt) fun _ _ _ h => h⟩
theorem w_or1 (ha : QT X W a ta) : QW X W (.BoolOp .Or [a] pos) ta := ⟨pw_imp (pw_or1 ha.pt) fun _ _ _ h => h⟩
theorem w_and (ha : QT X W a ta) (hb : QW X W (.BoolOp .And (b :: rest) pos) tb) : QW X W (.BoolOp .And (a :: b :: rest) pos) (tAndS ta tb) :=
  ⟨pw_imp (pw_and ha.pt hb.pw) fun σ H Q h => (oneB h).mono fun v H1 ⟨φ, m, l, c1, c2, c3⟩ => by
    cases v with
    | true => exact iteT ⟨φ, l, m, c1, c2, c3⟩
    | false => exact iteF (c3 φ H1 _ Ext.refl c1 rfl)⟩
theorem w_or (ha : QT X W a ta) (hb : QW X W (.BoolOp .Or (b :: rest) pos) tb) : QW X W (.BoolOp .Or (a :: b :: rest) pos) (tOrS ta tb) :=
  ⟨pw_imp (pw_or ha.pt hb.pw) fun σ H Q h => (oneB h).mono fun v H1 ⟨φ, m, l, c1, c2, c3⟩ => by
    cases v with
    | false => exact iteF ⟨φ, l, m, c1, c2, c3⟩
    | true => exact iteT (c3 φ H1 _ Ext.refl c1 rfl)⟩
theorem t_w (h : QW X W e ta) : QT X W e ta := ⟨h.pw.pt⟩
theorem t_not (ha : QT X W a ta) : QT X W (.UnaryOp .Not a pos) (tNotS ta) :=
  ⟨pt_imp (pt_not ha.pt) fun σ H Q h => (oneB h).mono fun v H1 ⟨φ, m, l, c1, c2, c3⟩ => c3 φ H1 _ Ext.refl c1 rfl⟩
theorem q_ifx (ht : QT X W c ta) (ha : QE X W a sa) (hb : QE X W b sb) : QE X W (.IfExp c a b pos) (sIf ta sa sb) :=
  ⟨pe_imp (pe_ifExp ht.pt ha.pe hb.pe) fun σ H Q h => (oneB h).mono fun v H1 ⟨φ, m, l, c1, c2, c3⟩ => by
    cases v with
    | true => exact iteT ⟨φ, l, m, c1, c2, c3⟩
    | false => exact iteF ⟨φ, l, m, c1, c2, c3⟩⟩
theorem q_bo1 {op} (ha : QE X W a sa) : QE X W (.BoolOp op [a] pos) sa := ⟨pe_one ha.pe⟩
theorem oneL {K : PySem.W.Frag} {a : SE} {σ : L2.St} {H : Hp} {α β : Type} {rel : SM.Rel α β} {k : Loc → PV → MH → R α} {Q : β → Hp → Prop} (h : Rdg K rel W (fun l m => (a l m).bind fun x m1 => k l x m1) σ H Q) :
    Rdg K (rV K) W a σ H fun v H1 => ∃ φ m x l, RH K H1 φ m ∧ RL K H1 φ l σ ∧ RV K H1 φ x v ∧ Post K rel W φ l σ H1 (k l x m) Q := by
  obtain ⟨φ, l, m, h1, h2, h3⟩ := h
  refine ⟨φ, l, m, h1, h2, (Post.bind (rel := rV K) h2 h3).mono ?_⟩
  rintro v H1 ⟨φ1, x, m1, e1, a1, b1, c1, d1⟩
  exact ⟨φ1, m1, x, l, a1, b1, c1, d1⟩
theorem q_and (ha : QE X W a sa) (hb : QE X W (.BoolOp .And (b :: rest) pos) sb) : QE X W (.BoolOp .And (a :: b :: rest) pos) (sAndV sa sb) :=
  ⟨pe_imp (pe_and ha.pe hb.pe) fun σ H Q h => (oneL h).mono fun v H1 ⟨φ, m, x, l, c1, c2, c3, c4⟩ => by
    obtain ⟨k, rfl, c5⟩ := post_asB' c3 c4
    refine ⟨k, rfl, ?_⟩
    cases k with
    | true => exact iteT ⟨φ, l, m, c1, c2, c5⟩
    | false => exact iteF (c5 φ H1 _ Ext.refl c1 rfl)⟩
theorem q_or (ha : QE X W a sa) (hb : QE X W (.BoolOp .Or (b :: rest) pos) sb) : QE X W (.BoolOp .Or (a :: b :: rest) pos) (sOrV sa sb) :=
  ⟨pe_imp (pe_or ha.pe hb.pe) fun σ H Q h => (oneL h).mono fun v H1 ⟨φ, m, x, l, c1, c2, c3, c4⟩ => by
    obtain ⟨k, rfl, c5⟩ := post_asB' c3 c4
    refine ⟨k, rfl, ?_⟩
    cases k with
    | false => exact iteF ⟨φ, l, m, c1, c2, c5⟩
    | true => exact iteT (c5 φ H1 _ Ext.refl c1 rfl)⟩
end
abbrev FS := List PV → MH → R PV
def PostC (K : PySem.W.Frag) (φ : List Addr) (H : Hp) (r : R PV) (Q : VK) : Prop := match r with
  | .ok x m => ∀ φ' H' v, Ext K φ H φ' H' → RH K H' φ' m → RV K H' φ' x v → Q v H'
  | _ => False
def SpQ (K : PySem.W.Frag) (n : Nat) (f : FS) : Sp := fun vs H Q _ => vs.length = n ∧ ∃ φ m xs, RH K H φ m ∧ RVs K H φ xs vs ∧ PostC K φ H (f xs m) Q
def Cal (P : Program) (w : World) (K : PySem.W.Frag) (mg : Str → Option Value) (base : Heap) (x : Str) (n k : Nat) (f : FS) : Prop :=
  ∃ (fa : Addr) (fd : FuncData) (ps : List Str), ps.length = n ∧ FnOk P w K mg base CX0 k fa fd ps (SpQ K n f) ∧ mg x = some (.ref fa) ∧ PySem.W.keepIn K (.ref fa) = true ∧ Binds K fd ps []
def noex (r : R PV) : R PV := match r with
  | .ok x m => .ok x m
  | _ => .bad
def sCallU (n : Nat) (f : FS) (a : SA) : SE := fun l m => (a l m).bind fun xs m1 => if xs.length = n then noex (f xs m1) else .bad
section
variable {X : Cx} {W : XM} {e : Expr} {es : List Expr} {ses : SA} {x : Str} {p pos : Pos} {n k j : Nat} {f : FS}
theorem q_call (C : Cal X.prog X.w X.K X.mg X.base x n k f) (hr : Room j X.A) (hk : k ≤ j) (hg : Gl X x) (ha : QA X W (e :: es) ses) (hdb : (x == ("__debug__" : Str)) = false := by decide)
    (he : starEach (e :: es) X.env = (false, eval e X.env) :: starEach es X.env := by rfl) (hpl : (backTo pos (starEach es X.env)).any (·.1) = false := by rfl) : QE X W (.Call (.Name x p) (e :: es) [] pos) (sCallU n f ses) := by
  obtain ⟨fa, fd, ps, hps, F, hm, hkp, hb⟩ := C
  refine ⟨pe_imp (pe_call (E := E0) F (hr.mono hk) hg hm hkp hb .nil pass0 ha.pa hdb he hpl) fun σ H Q q => (oneA q).mono fun vs H1 ⟨φ, m, xs, l, c1, c2, c3⟩ => ?_⟩
  rw [List.append_nil]
  by_cases hz : xs.length = n
  · rw [if_pos hz] at c3
    refine ⟨by rw [c2.length]; exact hz, φ, m, xs, c1, c2, ?_⟩
    cases hf : f xs m with
    | ok y m' => rw [hf] at c3; exact c3
    | ex c fs m' => rw [hf] at c3; exact c3.elim
    | bad => rw [hf] at c3; exact c3.elim
  · rw [if_neg hz] at c3
    exact c3.elim
end
def PostS (K : PySem.W.Frag) (W : XM) (φ : List Addr) (H : Hp) (r : RS) (D : Ends) : Prop := match r with
  | .nx l m => ∀ φ' σ' H', Ext K φ H φ' H' → RH K H' φ' m → RL K H' φ' l σ' → D.nx σ' H'
  | .bk l m => ∀ φ' σ' H', Ext K φ H φ' H' → RH K H' φ' m → RL K H' φ' l σ' → D.bk σ' H'
  | .ct l m => ∀ φ' σ' H', Ext K φ H φ' H' → RH K H' φ' m → RL K H' φ' l σ' → D.ct σ' H'
  | .rt x m => ∀ φ' H' v, Ext K φ H φ' H' → RH K H' φ' m → RV K H' φ' x v → D.rt v H'
  | .ex c fs l m => ∀ φ' σ' H', Ext K φ H φ' H' → RH K H' φ' m → RL K H' φ' l σ' → W c fs φ' l m σ' H'
  | .bad => False
def RdS (K : PySem.W.Frag) (W : XM) (s : SS) : TS := fun D σ H => ∃ φ l m, RH K H φ m ∧ RL K H φ l σ ∧ PostS K W φ H (s l m) D
structure QS (X : Cx) (W : XM) (st : Stmt) (s : SS) : Prop where
  ps : PS X st (RdS X.K W s)
structure QSs (X : Cx) (W : XM) (st : List Stmt) (s : SS) : Prop where
  ps : PSs X st (RdS X.K W s)
theorem ps_imp {X : Cx} {e : Stmt} {t t' : TS} (h : PS X e t) (i : ∀ D σ H, t' D σ H → t D σ H) : PS X e t' := ⟨fun pins s σ H D I q => h.run pins s σ H D I (i D σ H q)⟩
theorem pss_imp {X : Cx} {e : List Stmt} {t t' : TS} (h : PSs X e t) (i : ∀ D σ H, t' D σ H → t D σ H) : PSs X e t' := ⟨fun pins s σ H D I q => h.run pins s σ H D I (i D σ H q)⟩
section
variable {K : PySem.W.Frag} {W : XM} {φ φ' : List Addr} {H H' : Hp} {r : RS} {D D' : Ends}
theorem PostS.ext (e : Ext K φ H φ' H') (h : PostS K W φ H r D) : PostS K W φ' H' r D := by
  cases r with
  | nx l m => exact fun φ2 σ2 H2 e2 => h φ2 σ2 H2 (e.trans e2)
  | bk l m => exact fun φ2 σ2 H2 e2 => h φ2 σ2 H2 (e.trans e2)
  | ct l m => exact fun φ2 σ2 H2 e2 => h φ2 σ2 H2 (e.trans e2)
  | rt x m => exact fun φ2 H2 v e2 => h φ2 H2 v (e.trans e2)
  | ex c fs l m => exact fun φ2 σ2 H2 e2 => h φ2 σ2 H2 (e.trans e2)
  | bad => exact h
/-- an expression's end, then the statement's -/
theorem PostS.then {α β : Type} {rel : Rel α β} {e : R α} {k : α → MH → RS} {l : Loc} {σ : L2.St} (hl : RL K H φ l σ) (h : PostS K W φ H (R.then l e k) D) :
    Post K rel W φ l σ H e (fun v H1 => ∃ φ1 x m1, Ext K φ H φ1 H1 ∧ RH K H1 φ1 m1 ∧ RL K H1 φ1 l σ ∧ rel H1 φ1 x v ∧ PostS K W φ1 H1 (k x m1) D) := by
  cases e with
  | ok x m => exact fun φ2 H2 v e a b => ⟨φ2, x, m, e, a, hl.ext e, b, PostS.ext e h⟩
  | ex c fs m => exact fun φ2 H2 e a => h φ2 σ H2 e a (hl.ext e)
  | bad => exact h
end
def xNil : SS := fun l m => .nx l m
def xSeq (s t : SS) : SS := fun l m => (s l m).seq t
def xBrk : SS := fun l m => .bk l m
def xCnt : SS := fun l m => .ct l m
def xExpr (s : SE) : SS := fun l m => R.then l (s l m) fun _ m1 => .nx l m1
def xRet (s : SE) : SS := fun l m => R.then l (s l m) fun x m1 => .rt x m1
def xRetN : SS := fun _ m => .rt .non m
def xIf (t : SB) (a b : SS) : SS := fun l m => R.then l (t l m) fun k m1 => if k = true then a l m1 else b l m1
def xSet (i : Nat) (s : SE) : SS := fun l m => R.then l (s l m) fun x m1 => .nx (l.set i (some x)) m1
def xPar (i j : Nat) (a b : SE) : SS := fun l m => R.then l (a l m) fun x m1 => R.then l (b l m1) fun y m2 => .nx ((l.set i (some x)).set j (some y)) m2
abbrev STg := PV → Loc → MH → Option (Loc × MH)
def xAsg (s : SE) (g : STg) : SS := fun l m => R.then l (s l m) fun x m1 => match g x l m1 with
  | some (l', m') => .nx l' m'
  | none => .bad
theorem RL.set {K : PySem.W.Frag} {H : Hp} {φ : List Addr} {l : Loc} {σ : L2.St} {x : PV} {v : V} (h : RL K H φ l σ) (i : Nat) (r : RV K H φ x v) : RL K H φ (l.set i (some x)) (σ.set i (some v)) := by
  refine ⟨by simp [h.1], fun j y e => ?_⟩
  by_cases hj : i = j
  · subst hj
    by_cases hi : i < l.length
    · rw [List.getElem?_set_self hi] at e
      cases e
      exact ⟨v, by rw [List.getElem?_set_self (by rw [← h.1]; exact hi)], r⟩
    · rw [List.getElem?_eq_none (by simp; omega)] at e; cases e
  · rw [List.getElem?_set_ne hj] at e
    obtain ⟨w, e1, e2⟩ := h.2 j y e
    exact ⟨w, by rw [List.getElem?_set_ne hj]; exact e1, e2⟩
/-- a target -/
def RdG (K : PySem.W.Frag) (g : STg) : TG := fun v σ H Q => ∃ φ l m x, RH K H φ m ∧ RL K H φ l σ ∧ RV K H φ x v ∧ ∃ l' m', g x l m = some (l', m') ∧ ∀ φ' σ' H', Ext K φ H φ' H' → RH K H' φ' m' → RL K H' φ' l' σ' → Q σ' H'
structure QG (X : Cx) (tg : Expr) (g : STg) : Prop where
  pg : PG X tg (RdG X.K g)
abbrev STgs := List PV → Loc → MH → Option (Loc × MH)
def RdGs (K : PySem.W.Frag) (g : STgs) : TGs := fun vs σ H Q => ∃ φ l m xs, RH K H φ m ∧ RL K H φ l σ ∧ RVs K H φ xs vs ∧ ∃ l' m', g xs l m = some (l', m') ∧ ∀ φ' σ' H', Ext K φ H φ' H' → RH K H' φ' m' → RL K H' φ' l' σ' → Q σ' H'
structure QGs (X : Cx) (tg : List Expr) (g : STgs) : Prop where
  pg : PGs X tg (RdGs X.K g)
theorem pg_imp {X : Cx} {e : Expr} {t t' : TG} (h : PG X e t) (i : ∀ v σ H Q, t' v σ H Q → t v σ H Q) : PG X e t' := ⟨fun pins s σ H v u Q I r q => h.run pins s σ H v u Q I r (i v σ H Q q)⟩
theorem pgs_imp {X : Cx} {e : List Expr} {t t' : TGs} (h : PGs X e t) (i : ∀ v σ H Q, t' v σ H Q → t v σ H Q) : PGs X e t' := ⟨fun pins s σ H v u Q I r q => h.run pins s σ H v u Q I r (i v σ H Q q)⟩
theorem pg_or {X : Cx} {e : Expr} {t t' : TG} (h : PG X e t) (h' : PG X e t') : PG X e (fun v σ H Q => t v σ H Q ∨ t' v σ H Q) := ⟨fun pins s σ H v u Q I r q => by
  rcases q with q | q
  · exact h.run pins s σ H v u Q I r q
  · exact h'.run pins s σ H v u Q I r q⟩
def gNm (i : Nat) : STg := fun x l m => some (l.set i (some x), m)
def gNilS : STgs := fun xs l m => match xs with
  | [] => some (l, m)
  | _ => none
def gConsS (g : STg) (r : STgs) : STgs := fun xs l m => match xs with
  | x :: xs => match g x l m with
    | some (l', m') => r xs l' m'
    | none => none
  | [] => none
def gTupS (n : Nat) (g : STgs) : STg := fun x l m => match x with
  | .tup xs => if xs.length = n then g xs l m else none
  | .ref i => match seq? m i with
    | some xs => if xs.length = n then g xs l m else none
    | none => none
  | _ => none
def gSubS (o i : SE) : STg := fun x l m => match o l m with
  | .ok ov m1 => match i l m1 with
    | .ok iv m2 => (setv ov iv x m2).map fun m3 => (l, m3)
    | _ => none
  | _ => none
section
variable {X : Cx} {W : XM} {e o i : Expr} {es : List Expr} {se so si : SE} {pos : Pos}
theorem g_name (i : Nat) {x : Str} (hN : X.N.Nodup) (hi : X.N[i]? = some x := by rfl) (hx : L2.Loc X.env.scope x := by first | exact .inl rfl | exact .inr rfl) (hf : X.fn x = true ∨ X.env.scope.names.lookup x = some .local := by first | exact .inl rfl | exact .inr rfl) : QG X (.Name x pos) (gNm i) :=
  ⟨pg_imp (pg_name hN hi hx hf) fun v σ H Q ⟨φ, l, m, x, h1, h2, h3, l', m', e, q⟩ => by
    cases e
    exact q φ _ H Ext.refl h1 (h2.set i h3)⟩
theorem gs_nil : QGs X [] gNilS := ⟨pgs_imp pgs_nil fun v σ H Q ⟨φ, l, m, x, h1, h2, h3, l', m', e, q⟩ => by
  unfold gNilS at e
  split at e
  · cases h3
    cases e
    exact ⟨rfl, q φ _ H Ext.refl h1 h2⟩
  · cases e⟩
theorem gs_cons {g : STg} {r : STgs} (h1 : QG X e g) (h2 : QGs X es r) (hs : (assignEach (e :: es) X.env).map (·.2) = assign e X.env :: (assignEach es X.env).map (·.2) := by rfl) : QGs X (e :: es) (gConsS g r) :=
  ⟨pgs_imp (pgs_cons h1.pg h2.pg hs) fun v σ H Q ⟨φ, l, m, x, h1, h2, h3, l', m', e, q⟩ => by
    unfold gConsS at e
    split at e
    · rename_i x xs
      obtain ⟨w, ws, rfl, r1, r2⟩ := h3
      split at e
      · rename_i l1 m1 e1
        exact ⟨w, ws, rfl, φ, l, m, x, h1, h2, r1, l1, m1, e1, fun φ1 σ1 H1 x1 a1 b1 => ⟨φ1, l1, m1, xs, a1, b1, RVs.ext x1 r2, l', m', e, fun φ2 σ2 H2 x2 a2 b2 => q φ2 σ2 H2 (x1.trans x2) a2 b2⟩⟩
      · cases e
    · cases e⟩
theorem g_tup {k n : Nat} {g : STgs} (hc : X.calm = true) (h : QGs X es g) (hn : (assignEach es X.env).length = n := by rfl) (hst : (assignEach es X.env).findIdx? (·.1) = none := by rfl) : QG X (.Tuple es k pos) (gTupS n g) :=
  ⟨pg_imp (pg_or (pg_tup hc h.pg hn hst) (pg_unl hc h.pg hn hst)) fun v σ H Q ⟨φ, l, m, x, h1, h2, h3, l', m', e, q⟩ => by
    unfold gTupS at e
    split at e
    · obtain ⟨a, vs, rfl, r1, r2⟩ := h3
      split at e
      · rename_i hz
        exact .inl ⟨a, vs, rfl, r1, by rw [r2.length]; exact hz, φ, l, m, _, h1, h2, r2, l', m', e, q⟩
      · cases e
    · split at e
      · rename_i xs hs
        obtain ⟨a, vs, rfl, r1, r2⟩ := h1.seq h3 hs
        split at e
        · rename_i hz
          exact .inr ⟨a, vs, rfl, r1, by rw [r2.length]; exact hz, φ, l, m, _, h1, h2, r2, l', m', e, q⟩
        · cases e
      · cases e
    · cases e⟩
end
section
variable {X : Cx} {W : XM} {st : Stmt} {rest : List Stmt} {s t : SS} {e : Expr} {se : SE} {pos : Pos}
theorem x_nil : QSs X W [] xNil := ⟨pss_imp pss_nil fun D σ H ⟨φ, l, m, h1, h2, h3⟩ => h3 φ σ H Ext.refl h1 h2⟩
theorem x_cons (h1 : QS X W st s) (h2 : QSs X W rest t) : QSs X W (st :: rest) (xSeq s t) := ⟨pss_imp (pss_cons h1.ps h2.ps) fun D σ H ⟨φ, l, m, h1, h2, h3⟩ => by
  refine ⟨φ, l, m, h1, h2, ?_⟩
  unfold xSeq at h3
  cases hs : s l m with
  | nx l' m' => rw [hs] at h3; exact fun φ' σ' H' x a b => ⟨φ', l', m', a, b, PostS.ext x h3⟩
  | bk l' m' => rw [hs] at h3; exact h3
  | ct l' m' => rw [hs] at h3; exact h3
  | rt l' m' => rw [hs] at h3; exact h3
  | ex c fs l' m' => rw [hs] at h3; exact h3
  | bad => rw [hs] at h3; exact h3⟩
theorem x_one (h1 : QS X W st s) : QSs X W [st] s := ⟨pss_one h1.ps⟩
theorem x_expr (he : QE X W e se) (hs : swapsWith e none pos.line X.env = pure false := by rfl) : QS X W (.Expr e pos) (xExpr se) := ⟨ps_imp (ps_expr he.pe hs) fun D σ H ⟨φ, l, m, h1, h2, h3⟩ =>
  ⟨φ, l, m, h1, h2, (PostS.then (rel := rV X.K) h2 h3).mono fun v H1 ⟨φ1, x, m1, e1, a1, b1, c1, d1⟩ => d1 φ1 σ H1 Ext.refl a1 b1⟩⟩
theorem x_ret (he : QE X W e se) : QS X W (.Return (some e) pos) (xRet se) := ⟨ps_imp (ps_ret he.pe) fun D σ H ⟨φ, l, m, h1, h2, h3⟩ =>
  ⟨φ, l, m, h1, h2, (PostS.then (rel := rV X.K) h2 h3).mono fun v H1 ⟨φ1, x, m1, e1, a1, b1, c1, d1⟩ => d1 φ1 H1 v Ext.refl a1 c1⟩⟩
theorem x_if {c : Expr} {a b : List Stmt} {tc : SB} {sa sb : SS} (hc : QT X W c tc) (ha : QSs X W a sa) (hb : QSs X W b sb) : QS X W (.If c a b pos) (xIf tc sa sb) := ⟨ps_imp (ps_if hc.pt ha.ps hb.ps) fun D σ H ⟨φ, l, m, h1, h2, h3⟩ =>
  ⟨φ, l, m, h1, h2, (PostS.then (rel := rB) h2 h3).mono fun v H1 ⟨φ1, x, m1, e1, a1, b1, c1, d1⟩ => by
    cases c1
    cases v with
    | true => exact iteT ⟨φ1, l, m1, a1, b1, d1⟩
    | false => exact iteF ⟨φ1, l, m1, a1, b1, d1⟩⟩⟩
theorem x_set (i : Nat) {x : Str} {pos' : Pos} (hN : X.N.Nodup) (he : QE X W e se) (hi : X.N[i]? = some x := by rfl) (hx : L2.Loc X.env.scope x := by first | exact .inl rfl | exact .inr rfl) (hs : swapsWith e (some (.Name x pos')) pos.line X.env = pure false := by rfl)
    (hf : X.fn x = true ∨ X.env.scope.names.lookup x = some .local := by first | exact .inl rfl | exact .inr rfl) : QS X W (.Assign [.Name x pos'] e pos) (xSet i se) := ⟨ps_imp (ps_set hN hi hx he.pe hs hf) fun D σ H ⟨φ, l, m, h1, h2, h3⟩ =>
  ⟨φ, l, m, h1, h2, (PostS.then (rel := rV X.K) h2 h3).mono fun v H1 ⟨φ1, x, m1, e1, a1, b1, c1, d1⟩ => d1 φ1 _ H1 Ext.refl a1 (b1.set i c1)⟩⟩
theorem x_asg {tg : Expr} {g : STg} (he : QE X W e se) (hg : QG X tg g) (hs : swapsWithSole [tg] e pos.line X.env = pure false := by rfl) (hw : swappedStores [tg] e X.env = pure none := by rfl)
    (h1 : (assignEach [tg] X.env).map (·.2) = [assign tg X.env] := by rfl) : QS X W (.Assign [tg] e pos) (xAsg se g) := ⟨ps_imp (ps_asg he.pe hg.pg hs hw h1) fun D σ H ⟨φ, l, m, h1, h2, h3⟩ =>
  ⟨φ, l, m, h1, h2, (PostS.then (rel := rV X.K) h2 h3).mono fun v H1 ⟨φ1, x, m1, e1, a1, b1, c1, d1⟩ => by
    cases hg : g x l m1 with
    | none => rw [hg] at d1; exact d1.elim
    | some p =>
      obtain ⟨l', m'⟩ := p
      rw [hg] at d1
      exact ⟨φ1, l, m1, x, a1, b1, c1, l', m', hg, fun φ2 σ2 H2 x2 a2 b2 => d1 φ2 σ2 H2 x2 a2 b2⟩⟩⟩
end
structure ITM where
  items : List PV
  src : Option Nat
def ITM.ok (it : ITM) (m : MH) : Prop := match it.src with
  | none => True
  | some n => seq? m n = some it.items
abbrev SI := Loc → MH → R ITM
open Classical in
noncomputable def forL (it : ITM) (g : STg) (body : SS) : List PV → Loc → MH → RS
  | [], l, m => if it.ok m then .nx l m else .bad
  | x :: r, l, m => if it.ok m then match g x l m with
      | some (l1, m1) => match body l1 m1 with
        | .nx l2 m2 => forL it g body r l2 m2
        | .ct l2 m2 => forL it g body r l2 m2
        | .bk l2 m2 => .nx l2 m2
        | r => r
      | none => .bad
    else .bad
noncomputable def xFor (si : SI) (g : STg) (body : SS) : SS := fun l m => R.then l (si l m) fun it m1 => forL it g body it.items l m1
def RdI (K : PySem.W.Frag) (W : XM) (si : SI) : TI := fun σ H RR => ∃ φ l m, RH K H φ m ∧ RL K H φ l σ ∧ match si l m with
  | .ok it m' => ∀ φ' H' J, Ext K φ H φ' H' → RH K H' φ' m' →
      Walk J it.items.length (fun H2 => ∃ φ2 m2, Ext K φ' H' φ2 H2 ∧ RH K H2 φ2 m2 ∧ it.ok m2)
        (fun i H2 v H3 => H3 = H2 ∧ ∀ φ2 m2, Ext K φ' H' φ2 H2 → RH K H2 φ2 m2 → it.ok m2 → ∃ x, it.items[i]? = some x ∧ RV K H2 φ2 x v) → RR J H'
  | .ex c fs m' => ∀ φ' H', Ext K φ H φ' H' → RH K H' φ' m' → W c fs φ' l m' σ H'
  | .bad => False
structure QI (X : Cx) (W : XM) (tg iter : Expr) (si : SI) : Prop where
  pi : PI X tg iter (RdI X.K W si)
theorem pi_imp {X : Cx} {tg e : Expr} {t t' : TI} (h : PI X tg e t) (i : ∀ σ H R, t' σ H R → t σ H R) : PI X tg e t' := ⟨fun pins s σ H R I q => h.run pins s σ H R I (i σ H R q)⟩
theorem pi_or {X : Cx} {tg e : Expr} {t t' : TI} (h : PI X tg e t) (h' : PI X tg e t') : PI X tg e (fun σ H R => t σ H R ∨ t' σ H R) := ⟨fun pins s σ H R I q => by
  rcases q with q | q
  · exact h.run pins s σ H R I q
  · exact h'.run pins s σ H R I q⟩
section
variable {X : Cx} {W : XM} {iter tg e : Expr} {body : List Stmt} {si : SI} {g : STg} {sb : SS} {pos : Pos} {se : SE}
theorem x_for (hp : PassesOwn (model X.prog X.w) X.A X.env X.xe) (hc : X.calm = true) (hi : QI X W tg iter si) (hg : QG X tg g) (hb : QSs X W body sb)
    (hs : ∀ x, foldedSetIterable iter X.env x = pure x := by intro _; rfl) : QS X W (.For tg iter body [] pos) (xFor si g sb) := ⟨ps_imp (ps_for hp hc hi.pi hg.pg hb.ps hs) fun D σ H ⟨φ, l, m, h1, h2, h3⟩ => by
  refine ⟨φ, l, m, h1, h2, ?_⟩
  unfold xFor at h3
  cases hsi : si l m with
  | bad => rw [hsi] at h3; exact h3
  | ex c fs m' => rw [hsi] at h3; exact fun φ' H' x a => h3 φ' σ H' x a (h2.ext x)
  | ok it m' =>
    rw [hsi] at h3
    intro φ' H' J x0 a0 w
    refine for_it w (fun i σ2 H2 => ∃ φ2 l2 m2, Ext X.K φ' H' φ2 H2 ∧ RH X.K H2 φ2 m2 ∧ RL X.K H2 φ2 l2 σ2 ∧ PostS X.K W φ2 H2 (forL it g sb (it.items.drop i) l2 m2) D) ⟨φ', l, m', Ext.refl, a0, h2.ext x0, PostS.ext x0 h3⟩ ?_ ?_ ?_
    · rintro i σ2 H2 hi ⟨φ2, l2, m2, x2, a2, b2, c2⟩
      refine ⟨φ2, m2, x2, a2, ?_⟩
      cases hd : it.items.drop i with
      | nil =>
        rw [hd] at c2
        unfold forL at c2
        by_cases hk : it.ok m2
        · exact hk
        · rw [if_neg hk] at c2; exact c2.elim
      | cons x r =>
        rw [hd] at c2
        unfold forL at c2
        by_cases hk : it.ok m2
        · exact hk
        · rw [if_neg hk] at c2; exact c2.elim
    · rintro i v σ2 H2 H3 hi ⟨φ2, l2, m2, x2, a2, b2, c2⟩ ⟨rfl, hv⟩
      have hi' : i < it.items.length := hi
      rw [List.drop_eq_getElem_cons hi'] at c2
      unfold forL at c2
      by_cases hk : it.ok m2
      · rw [if_pos hk] at c2
        obtain ⟨x0', hx1, hx2⟩ := hv φ2 m2 x2 a2 hk
        rw [List.getElem?_eq_getElem hi'] at hx1
        cases hx1
        cases hgx : g it.items[i] l2 m2 with
        | none => rw [hgx] at c2; exact c2.elim
        | some p =>
          obtain ⟨l3, m3⟩ := p
          rw [hgx] at c2
          dsimp only at c2
          refine ⟨φ2, l2, m2, _, a2, b2, hx2, l3, m3, hgx, fun φ3 σ3 H3 x3 a3 b3 => ⟨φ3, l3, m3, a3, b3, ?_⟩⟩
          have c3 := PostS.ext x3 c2
          cases hb : sb l3 m3 with
          | nx l4 m4 =>
            rw [hb] at c3
            exact fun φ4 σ4 H4 x4 a4 b4 => ⟨φ4, l4, m4, (x2.trans x3).trans x4, a4, b4, PostS.ext x4 c3⟩
          | ct l4 m4 =>
            rw [hb] at c3
            exact fun φ4 σ4 H4 x4 a4 b4 => ⟨φ4, l4, m4, (x2.trans x3).trans x4, a4, b4, PostS.ext x4 c3⟩
          | bk l4 m4 => rw [hb] at c3; exact c3
          | rt x m4 => rw [hb] at c3; exact c3
          | ex c fs l4 m4 => rw [hb] at c3; exact c3
          | bad => rw [hb] at c3; exact c3
      · rw [if_neg hk] at c2; exact c2.elim
    · rintro σ2 H2 ⟨φ2, l2, m2, x2, a2, b2, c2⟩
      rw [List.drop_of_length_le (Nat.le_refl _)] at c2
      unfold forL at c2
      by_cases hk : it.ok m2
      · rw [if_pos hk] at c2
        exact c2 φ2 σ2 H2 Ext.refl a2 b2
      · rw [if_neg hk] at c2; exact c2.elim⟩
/-- over a list or a tuple -/
def iSeq (s : SE) : SI := fun l m => (s l m).bind fun x m1 => match x with
  | .tup xs => .ok ⟨xs, none⟩ m1
  | .ref n => match seq? m1 n with
    | some xs => .ok ⟨xs, some n⟩ m1
    | none => .bad
  | _ => .bad
theorem i_seq (he : QE X W e se) : QI X W tg e (iSeq se) := ⟨pi_imp (pi_or (pi_list he.pe) (pi_tup he.pe)) fun σ H RR ⟨φ, l, m, h1, h2, h3⟩ => by
  unfold iSeq at h3
  cases hs : se l m with
  | bad => rw [hs] at h3; exact h3.elim
  | ex c fs m' =>
    rw [hs] at h3
    exact .inl ⟨φ, l, m, h1, h2, by rw [hs]; exact h3⟩
  | ok x m1 =>
    rw [hs] at h3
    simp only [R.bind] at h3
    cases x with
    | tup xs =>
      refine .inr ⟨φ, l, m, h1, h2, ?_⟩
      rw [hs]
      rintro φ' H' v x1 a1 ⟨p, vs, rfl, r1, r2⟩
      refine ⟨p, rfl, ⟨vs, r1⟩, h3 φ' H' _ x1 a1 ?_⟩
      have w0 : Walk (Itt X.K p) vs.length (fun H => SqT X.K H p vs) (YAt vs) := walk_tup
      rw [r2.length] at w0
      refine w0.mono (fun H2 ⟨φ2, m2, x2, _⟩ => x2.tup _ _ r1) fun i H2 v H3 hi ⟨φ2, m2, x2, _⟩ y => ⟨y.1, fun φ3 m3 x3 a3 o3 => ?_⟩
      obtain ⟨v', e1, e2⟩ := r2.get (List.getElem?_eq_getElem hi)
      rw [y.2] at e1
      cases e1
      exact ⟨_, List.getElem?_eq_getElem hi, RV.ext x3 e2⟩
    | ref n =>
      simp only at h3
      cases hq : seq? m1 n with
      | none => rw [hq] at h3; exact h3.elim
      | some xs =>
        rw [hq] at h3
        refine .inl ⟨φ, l, m, h1, h2, ?_⟩
        rw [hs]
        rintro φ' H' v x1 a1 r0
        obtain ⟨p, vs, rfl, r1, r2⟩ := a1.seq r0 hq
        refine ⟨p, rfl, ⟨vs, r1⟩, h3 φ' H' _ x1 a1 ⟨fun i H2 hi ⟨φ2, m2, x2, a2, o2⟩ => ?_, fun H2 ⟨φ2, m2, x2, a2, o2⟩ => ?_, fun i H2 v H3 hi ⟨φ2, m2, x2, a2, o2⟩ y => ⟨y.1, fun φ3 m3 x3 a3 o3 => ?_⟩⟩⟩
        · obtain ⟨q, vs2, e1, e2, e3⟩ := a2.seq (RV.ext x2 r0) o2
          cases e1
          obtain ⟨v', e4, _⟩ := e3.get (List.getElem?_eq_getElem hi)
          exact ⟨vs2, v', e2, e4⟩
        · obtain ⟨q, vs2, e1, e2, e3⟩ := a2.seq (RV.ext x2 r0) o2
          cases e1
          exact ⟨vs2, e2, by rw [e3.length]; exact Nat.le_refl _⟩
        · obtain ⟨q, vs2, e1, e2, e3⟩ := a3.seq (RV.ext x3 r0) o3
          cases e1
          obtain ⟨v', e4, e5⟩ := e3.get (List.getElem?_eq_getElem hi)
          rw [y.2 vs2 e2] at e4
          cases e4
          exact ⟨_, List.getElem?_eq_getElem hi, e5⟩
    | _ => exact h3.elim⟩
/-- range(b), range(a, b) -/
@[simp] def rng (lo hi : Int) : List PV := (List.range (hi - lo).toNat).map fun i => .int (lo + (i : Nat))
def iRng1S (b : SE) : SI := fun l m => (b l m).bind fun y m1 => match y with
  | .int j => if -4611686018427387904 ≤ j ∧ j < 4611686018427387904 then .ok ⟨rng 0 j, none⟩ m1 else .bad
  | _ => .bad
def iRng2S (a b : SE) : SI := fun l m => (a l m).bind fun x m1 => (b l m1).bind fun y m2 => match x, y with
  | .int i, .int j => if -4611686018427387904 ≤ i ∧ i < 4611686018427387904 ∧ -4611686018427387904 ≤ j ∧ j < 4611686018427387904 then .ok ⟨rng i j, none⟩ m2 else .bad
  | _, _ => .bad
theorem rng_len (lo hi : Int) : (rng lo hi).length = (hi - lo).toNat := by simp
theorem rng_get {lo hi : Int} {i : Nat} (h : i < (hi - lo).toNat) : (rng lo hi)[i]? = some (.int (lo + (i : Nat))) := by
  simp [rng, List.getElem?_map, List.getElem?_range h]
theorem walk_rng {K : PySem.W.Frag} {φ' : List Addr} {H' : Hp} {lo hi : Int} : Walk (Itr lo (hi - lo).toNat) (rng lo hi).length (fun H2 => ∃ φ2 m2, Ext K φ' H' φ2 H2 ∧ RH K H2 φ2 m2 ∧ ITM.ok ⟨rng lo hi, none⟩ m2)
    (fun i H2 v H3 => H3 = H2 ∧ ∀ φ2 m2, Ext K φ' H' φ2 H2 → RH K H2 φ2 m2 → ITM.ok ⟨rng lo hi, none⟩ m2 → ∃ x, (rng lo hi)[i]? = some x ∧ RV K H2 φ2 x v) := by
  rw [rng_len]
  exact walk_range.mono (fun _ _ => trivial) fun i H2 v H3 hi _ y => ⟨y.1, fun φ3 m3 x3 a3 o3 => ⟨_, rng_get hi, y.2⟩⟩
theorem i_rng1 {b : Expr} {sb : SE} {p pos : Pos} (hg : Gl X "range") (hm : X.mg "range" = none) (hb : QE X W b sb) (hs : starEach [b] X.env = [(false, eval b X.env)] := by rfl) : QI X W tg (.Call (.Name "range" p) [b] [] pos) (iRng1S sb) :=
  ⟨pi_imp (pi_range1 hg hm (pa_cons hb.pe pa_nil (by rw [hs] <;> rfl)) hs) fun σ H RR ⟨φ, l, m, h1, h2, h3⟩ => ⟨φ, l, m, h1, h2, by
    unfold iRng1S at h3
    cases e1 : sb l m with
    | bad => rw [e1] at h3; exact h3
    | ex c fs m' => rw [e1] at h3; exact h3
    | ok y m1 =>
      rw [e1] at h3
      simp only [R.bind] at h3
      intro φ1 H1 v x1 a1 r1
      cases y with
      | int j =>
        cases r1
        simp only at h3
        by_cases hz : -4611686018427387904 ≤ j ∧ j < 4611686018427387904
        · rw [if_pos hz] at h3
          have e : Itr 0 j.toNat = Itr 0 (j - 0).toNat := by rw [Int.sub_zero]
          refine ⟨j, rfl, by omega, by omega, ?_⟩
          rw [e]
          exact h3 φ1 H1 _ x1 a1 walk_rng
        · rw [if_neg hz] at h3; exact h3.elim
      | _ => exact h3.elim⟩⟩
theorem i_rng2 {a b : Expr} {sa sb : SE} {p pos : Pos} (hg : Gl X "range") (hm : X.mg "range" = none) (ha : QE X W a sa) (hb : QE X W b sb) (hs : starEach [a, b] X.env = [(false, eval a X.env), (false, eval b X.env)] := by rfl) (hs2 : starEach [b] X.env = [(false, eval b X.env)] := by rfl) :
    QI X W tg (.Call (.Name "range" p) [a, b] [] pos) (iRng2S sa sb) :=
  ⟨pi_imp (pi_range2 hg hm (pa_cons ha.pe (pa_cons hb.pe pa_nil (by rw [hs2] <;> rfl)) (by rw [hs, hs2])) hs hs2) fun σ H RR ⟨φ, l, m, h1, h2, h3⟩ => ⟨φ, l, m, h1, h2, by
    unfold iRng2S at h3
    cases e1 : sa l m with
    | bad => rw [e1] at h3; exact h3
    | ex c fs m' => rw [e1] at h3; exact h3
    | ok y m1 =>
      rw [e1] at h3
      simp only [R.bind] at h3
      intro φ1 H1 v x1 a1 r1
      refine ⟨φ1, l, m1, a1, h2.ext x1, ?_⟩
      cases e2 : sb l m1 with
      | bad => rw [e2] at h3; exact h3
      | ex c fs m' =>
        rw [e2] at h3
        exact fun φ2 H2 x2 a2 => h3 φ2 H2 (x1.trans x2) a2
      | ok z m2 =>
        rw [e2] at h3
        simp only [R.bind] at h3
        intro φ2 H2 v2 x2 a2 r2
        cases y with
        | int i =>
          cases z with
          | int j =>
            cases r1
            cases r2
            simp only at h3
            by_cases hz : -4611686018427387904 ≤ i ∧ i < 4611686018427387904 ∧ -4611686018427387904 ≤ j ∧ j < 4611686018427387904
            · rw [if_pos hz] at h3
              exact ⟨i, j, rfl, by omega, h3 φ2 H2 _ (x1.trans x2) a2 walk_rng⟩
            · rw [if_neg hz] at h3; exact h3.elim
          | _ => exact h3.elim
        | _ => exact h3.elim⟩⟩
end
end SM
set_option Elab.async false
set_option linter.all false
set_option maxRecDepth 100000
set_option maxHeartbeats 1000000
namespace SM
open PySem PySem.Spec PyProof.Rows L2
theorem q_strc {X : Cx} {W : XM} {x : Str} {j pos} (cs : List Nat) (h : x.cps.toList = cs := by decide +kernel) : QE X W (.Constant (.str x) j pos) (sC (.str cs)) := by
  subst h
  exact q_str
def fnS (n N : Nat) (b : SS) : FS := fun xs m => if xs.length = n then match b (xs.map some ++ List.replicate (N - n) none) m with
  | .nx _ m' => .ok .non m'
  | .rt x m' => .ok x m'
  | .ex c fs _ m' => .ex c fs m'
  | _ => .bad
  else .bad
theorem rl_start {K : PySem.W.Frag} {H : Hp} {φ : List Addr} {N : List Str} {n : Nat} (hn : n ≤ N.length) : ∀ {xs : List PV} {vs : List V}, RVs K H φ xs vs → xs.length = n → RL K H φ (xs.map some ++ List.replicate (N.length - n) none) (L2.start N vs) := fun {xs vs} h hl => by
  have hv := h.length
  unfold L2.start
  refine ⟨by simp [hv, hl], fun i x e => ?_⟩
  by_cases hi : i < xs.length
  · rw [List.getElem?_append_left (by simpa using hi)] at e
    rw [List.getElem?_map] at e
    cases hx : xs[i]? with
    | none => rw [hx] at e; cases e
    | some y =>
      rw [hx] at e
      cases e
      obtain ⟨v, e1, e2⟩ := h.get hx
      exact ⟨v, by rw [List.getElem?_append_left (by simpa [hv] using hi), List.getElem?_map, e1]; rfl, e2⟩
  · rw [List.getElem?_append_right (by simpa using hi)] at e
    rw [List.getElem?_replicate] at e
    split at e <;> cases e
section
variable {P : Program} {w : World} {K : PySem.W.Frag} {mg : Str → Option Value} {base : Heap}
theorem okQ {x qual : Str} {st : Stmt} {f : Addr} {fd : FuncData} {N ps : List Str} {k : Nat} (F : Fun K x qual st f fd) (S : FnScope N ps (defScope st)) (b : SS)
    (h : ∀ (cdv : Value) (A : Around) (outer : List Env) (s : Shared) (H : Hp) (E : XK), Room k (A.deeper (envOfC qual (defScope st) s.heap.objs.size f cdv)) →
      QSs (cxOf CX0 P w K mg base N qual (defScope st) f cdv A outer s H E).nox W0 (defBody st) b) : FnOk P w K mg base CX0 (k + 1) f fd ps (SpQ K ps.length (fnS ps.length N.length b)) := by
  refine F.ok S (fun vs H Q E h => h.1) fun cdv A outer s H vs Q E hr hsp => ?_
  obtain ⟨hl, φ, m, xs, h1, h2, h3⟩ := hsp
  have hle : ps.length ≤ N.length := by
    have := congrArg List.length S.pre
    rw [List.length_take] at this
    omega
  have hxl : xs.length = ps.length := by rw [← h2.length]; exact hl
  refine ⟨_, (h cdv A outer s H E hr).ps, φ, _, m, h1, rl_start hle h2 hxl, ?_⟩
  unfold fnS at h3
  rw [if_pos hxl] at h3
  cases hb : b (xs.map some ++ List.replicate (N.length - ps.length) none) m with
  | nx l m' => rw [hb] at h3; exact fun φ' σ' H' x a b => h3 φ' H' _ x a rfl
  | rt y m' => rw [hb] at h3; exact h3
  | bk l m' => rw [hb] at h3; exact h3.elim
  | ct l m' => rw [hb] at h3; exact h3.elim
  | ex c fs l m' => rw [hb] at h3; exact h3.elim
  | bad => rw [hb] at h3; exact h3.elim
theorem cal_mk {x qual : Str} {st : Stmt} {f : Addr} {fd : FuncData} {ps : List Str} {k n : Nat} {g : FS} (hn : ps.length = n) (G : FnOk P w K mg base CX0 k f fd ps (SpQ K n g)) (F : Fun K x qual st f fd) (hm : mg x = some (.ref f)) (hb : Binds K fd ps []) : Cal P w K mg base x n k g :=
  ⟨f, fd, ps, hn, G, hm, F.kp, hb⟩
end
end SM
set_option Elab.async false
set_option linter.all false
set_option maxRecDepth 100000
set_option maxHeartbeats 1000000
namespace SM
open PySem PySem.Spec PyProof.Rows L2
abbrev EX := String → List PV → MH → Prop
def NoE : EX := fun _ _ _ => False
@[reducible] def Hold {α : Sort u} (_ : α) : Type := Unit
@[irreducible] def WP {α : Type} (r : R α) (Q : α → MH → Prop) (E : EX) (_ : Hold (fun (_ : Unit) => (Q, E)) := Unit.unit) : Prop := match r with
  | .ok x m => Q x m
  | .ex c fs m => E c fs m
  | .bad => False
structure ED where
  nx : Loc → MH → Prop
  rt : PV → MH → Prop
  bk : Loc → MH → Prop := fun _ _ => False
  ct : Loc → MH → Prop := fun _ _ => False
  ex : String → List PV → Loc → MH → Prop := fun _ _ _ _ => False
@[irreducible] def WS (r : RS) (D : ED) (_ : Hold (fun (_ : Unit) => D) := Unit.unit) : Prop := match r with
  | .nx l m => D.nx l m
  | .rt x m => D.rt x m
  | .bk l m => D.bk l m
  | .ct l m => D.ct l m
  | .ex c fs l m => D.ex c fs l m
  | .bad => False
@[irreducible] def WG (o : Option (Loc × MH)) (Q : Loc → MH → Prop) (_ : Hold (fun (_ : Unit) => Q) := Unit.unit) : Prop := match o with
  | some (l, m) => Q l m
  | none => False
section
variable {α β : Type} {Q Q' : α → MH → Prop} {E : EX} {l : Loc} {m : MH} {D : ED}
theorem WP.mono {r : R α} (h : WP r Q E) (i : ∀ x m, Q x m → Q' x m) : WP r Q' E := by
  unfold WP at h ⊢
  cases r with
  | ok x m => exact i x m h
  | ex c fs m => exact h
  | bad => exact h
theorem WP.run {r : R α} (h : WP r Q NoE) : ∃ x m, r = .ok x m ∧ Q x m := by
  unfold WP at h
  cases r with
  | ok x m => exact ⟨x, m, rfl, h⟩
  | ex c fs m => exact h.elim
  | bad => exact h.elim
theorem WP.of {r : R α} {x : α} {m : MH} (h : r = .ok x m) (q : Q x m) : WP r Q E := by subst h; unfold WP; exact q
theorem WS.mono {r : RS} {D D' : ED} (h : WS r D) (h1 : ∀ l m, D.nx l m → D'.nx l m) (h2 : ∀ x m, D.rt x m → D'.rt x m) (h3 : ∀ l m, D.bk l m → D'.bk l m) (h4 : ∀ l m, D.ct l m → D'.ct l m) (h5 : ∀ c fs l m, D.ex c fs l m → D'.ex c fs l m) : WS r D' := by
  unfold WS at h ⊢
  cases r with
  | nx l m => exact h1 _ _ h
  | rt x m => exact h2 _ _ h
  | bk l m => exact h3 _ _ h
  | ct l m => exact h4 _ _ h
  | ex c fs l m => exact h5 _ _ _ _ h
  | bad => exact h
theorem wp_eq {r : R α} (h : ∀ x m, Q x m = Q' x m) : WP r Q E = WP r Q' E := by
  have : Q = Q' := funext fun x => funext fun m => h x m
  subst this; with_unfolding_all rfl
theorem wp_ok {x : α} : WP (.ok x m) Q E = Q x m := by with_unfolding_all rfl
theorem wp_bad : WP (.bad : R α) Q E = False := by with_unfolding_all rfl
theorem wp_bind {r : R β} {k : β → MH → R α} : WP (r.bind k) Q E = WP r (fun x m => WP (k x m) Q E) E := by cases r <;> with_unfolding_all rfl
theorem wp_some {x : α} : WP (lift (some (x, m))) Q E = Q x m := by with_unfolding_all rfl
theorem wp_none : WP (lift (none : Option (α × MH))) Q E = False := by with_unfolding_all rfl
theorem wp_liftif {c : Prop} [Decidable c] {a b : Option (α × MH)} : WP (lift (if c then a else b)) Q E = if c then WP (lift a) Q E else WP (lift b) Q E := by split <;> with_unfolding_all rfl
theorem wp_if {c : Prop} [Decidable c] {a b : R α} : WP (if c then a else b) Q E = if c then WP a Q E else WP b Q E := by split <;> with_unfolding_all rfl
theorem ws_if {c : Prop} [Decidable c] {a b : RS} : WS (if c then a else b) D = if c then WS a D else WS b D := by split <;> with_unfolding_all rfl
theorem wp_noex {r : R PV} {Q : PV → MH → Prop} : WP (noex r) Q E = WP r Q NoE := by cases r <;> with_unfolding_all rfl
theorem ws_then {r : R β} {k : β → MH → RS} : WS (R.then l r k) D = WP r (fun x m => WS (k x m) D) (fun c fs m => D.ex c fs l m) := by cases r <;> with_unfolding_all rfl
theorem ws_seq {r : RS} {k : Loc → MH → RS} : WS (r.seq k) D = WS r { D with nx := fun l m => WS (k l m) D } := by cases r <;> with_unfolding_all rfl
theorem ws_nx : WS (.nx l m) D = D.nx l m := by with_unfolding_all rfl
theorem ws_rt {x : PV} : WS (.rt x m) D = D.rt x m := by with_unfolding_all rfl
theorem ws_bk : WS (.bk l m) D = D.bk l m := by with_unfolding_all rfl
theorem ws_ct : WS (.ct l m) D = D.ct l m := by with_unfolding_all rfl
theorem ws_bad : WS .bad D = False := by with_unfolding_all rfl
end
section
variable {Q : PV → MH → Prop} {E : EX} {l : Loc} {m : MH} {D : ED} {a b c : SE} {s t : SS} {ta tb : SB} {as : SA}
theorem w_var {i : Nat} {v : PV} (h : l[i]? = some (some v)) : WP (sVar i l m) Q E = Q v m := by unfold sVar; rw [h]; with_unfolding_all rfl
theorem w_v0 {v : PV} {r : Loc} : WP (sVar 0 (some v :: r) m) Q E = Q v m := by with_unfolding_all rfl
theorem w_vS {i : Nat} {o : Option PV} {r : Loc} : WP (sVar (i + 1) (o :: r) m) Q E = WP (sVar i r m) Q E := by
  unfold sVar; rw [List.getElem?_cons_succ]
theorem w_c {v : PV} : WP (sC v l m) Q E = Q v m := by with_unfolding_all rfl
theorem w_op {f : PV → PV → MH → OR} : WP (sOp f a b l m) Q E = WP (a l m) (fun x m1 => WP (b l m1) (fun y m2 => WP (lift (f x y m2)) Q E) E) E := by unfold sOp; rw [wp_bind]; exact wp_eq fun x m1 => wp_bind
theorem w_un {f : PV → MH → OR} : WP (sUn f a l m) Q E = WP (a l m) (fun x m1 => WP (lift (f x m1)) Q E) E := by unfold sUn; rw [wp_bind]
theorem w_anil {Q : List PV → MH → Prop} : WP (aNil l m) Q E = Q [] m := by with_unfolding_all rfl
theorem w_acons {Q : List PV → MH → Prop} : WP (aCons a as l m) Q E = WP (a l m) (fun x m1 => WP (as l m1) (fun xs m2 => Q (x :: xs) m2) E) E := by unfold aCons; rw [wp_bind]; exact wp_eq fun x m1 => by rw [wp_bind]; exact wp_eq fun xs m2 => wp_ok
theorem w_tup : WP (sTup as l m) Q E = WP (as l m) (fun xs m1 => xs.length ≤ 16777216 ∧ Q (.tup xs) m1) E := by
  unfold sTup; rw [wp_bind]; refine wp_eq fun xs m1 => ?_
  by_cases h : xs.length ≤ 16777216
  · rw [if_pos h]; simp [h, wp_ok]
  · rw [if_neg h]; simp [h, wp_bad]
theorem w_lst : WP (sLst as l m) Q E = WP (as l m) (fun xs m1 => xs.length ≤ 16777216 ∧ Q (.ref m1.length) (m1 ++ [.lst xs])) E := by
  unfold sLst; rw [wp_bind]; refine wp_eq fun xs m1 => ?_
  by_cases h : xs.length ≤ 16777216
  · rw [if_pos h]; simp [h, wp_ok]
  · rw [if_neg h]; simp [h, wp_bad]
theorem w_call {f : List PV → MH → OR} : WP (sCall f as l m) Q E = WP (as l m) (fun xs m1 => WP (lift (f xs m1)) Q E) E := by unfold sCall; rw [wp_bind]
theorem w_callU {n : Nat} {f : FS} : WP (sCallU n f as l m) Q E = WP (as l m) (fun xs m1 => xs.length = n ∧ WP (f xs m1) Q NoE) E := by
  unfold sCallU; rw [wp_bind]; refine wp_eq fun xs m1 => ?_
  by_cases h : xs.length = n
  · rw [if_pos h, wp_noex]; simp [h]
  · rw [if_neg h]; simp [h, wp_bad]
theorem w_isi {T : String} : WP (sIsi T a l m) Q E = WP (a l m) (fun x m1 => okTy m1 x = true ∧ Q (.bl (isTab (tyName x) T)) m1) E := by
  unfold sIsi; rw [wp_bind]; refine wp_eq fun x m1 => ?_
  by_cases h : okTy m1 x = true
  · rw [if_pos h]; simp [h, wp_ok]
  · rw [if_neg h]; simp [h, wp_bad]
theorem w_meth {ty : MH → PV → Bool} {f : PV → List PV → MH → OR} : WP (sMeth ty f a as l m) Q E = WP (a l m) (fun x m1 => ty m1 x = true ∧ WP (as l m1) (fun xs m2 => WP (lift (f x xs m2)) Q E) E) E := by
  unfold sMeth; rw [wp_bind]; refine wp_eq fun x m1 => ?_
  by_cases h : ty m1 x = true
  · rw [if_pos h, wp_bind]; simp [h]
  · rw [if_neg h]; simp [h, wp_bad]
theorem w_tru {Q : Bool → MH → Prop} : WP (tTru a l m) Q E = WP (a l m) (fun x m1 => match truv m1 x with | some b => Q b m1 | none => False) E := by
  unfold tTru; rw [wp_bind]; refine wp_eq fun x m1 => ?_; cases truv m1 x <;> with_unfolding_all rfl
theorem w_bool {Q : Bool → MH → Prop} : WP (tBool a l m) Q E = WP (a l m) (fun x m1 => WP (asB x m1) Q E) E := by unfold tBool; rw [wp_bind]
theorem w_notS {Q : Bool → MH → Prop} : WP (tNotS ta l m) Q E = WP (ta l m) (fun b m1 => Q (!b) m1) E := by unfold tNotS; rw [wp_bind]; with_unfolding_all rfl
theorem w_andS {Q : Bool → MH → Prop} : WP (tAndS ta tb l m) Q E = WP (ta l m) (fun b m1 => if b = true then WP (tb l m1) Q E else Q false m1) E := by
  unfold tAndS; rw [wp_bind]; refine wp_eq fun b m1 => ?_; rw [wp_if]; with_unfolding_all rfl
theorem w_orS {Q : Bool → MH → Prop} : WP (tOrS ta tb l m) Q E = WP (ta l m) (fun b m1 => if b = true then Q true m1 else WP (tb l m1) Q E) E := by
  unfold tOrS; rw [wp_bind]; refine wp_eq fun b m1 => ?_; rw [wp_if]; with_unfolding_all rfl
theorem w_ifx : WP (sIf ta a b l m) Q E = WP (ta l m) (fun k m1 => if k = true then WP (a l m1) Q E else WP (b l m1) Q E) E := by
  unfold sIf; rw [wp_bind]; refine wp_eq fun b m1 => ?_; rw [wp_if]
theorem w_andV : WP (sAndV a b l m) Q E = WP (a l m) (fun x m1 => WP (asB x m1) (fun k m2 => if k = true then WP (b l m2) Q E else Q (.bl false) m2) E) E := by
  unfold sAndV; rw [wp_bind]; refine wp_eq fun x m1 => ?_; rw [wp_bind]; refine wp_eq fun k m2 => ?_; rw [wp_if]; with_unfolding_all rfl
theorem w_orV : WP (sOrV a b l m) Q E = WP (a l m) (fun x m1 => WP (asB x m1) (fun k m2 => if k = true then Q (.bl true) m2 else WP (b l m2) Q E) E) E := by
  unfold sOrV; rw [wp_bind]; refine wp_eq fun x m1 => ?_; rw [wp_bind]; refine wp_eq fun k m2 => ?_; rw [wp_if]; with_unfolding_all rfl
theorem w_notV : WP (sNotV a l m) Q E = WP (a l m) (fun x m1 => WP (asB x m1) (fun k m2 => Q (.bl (!k)) m2) E) E := by
  unfold sNotV; rw [wp_bind]; refine wp_eq fun x m1 => ?_; rw [wp_bind]; with_unfolding_all rfl
theorem w_chain {f g : PV → PV → MH → OR} : WP (sChain f g a b c l m) Q E = WP (a l m) (fun x m1 => WP (b l m1) (fun y m2 => WP (lift (f x y m2)) (fun z m3 => WP (asB z m3) (fun k m4 => if k = true then WP (c l m4) (fun u m5 => WP (lift (g y u m5)) Q E) E else Q (.bl false) m4) E) E) E) E := by
  unfold sChain; rw [wp_bind]; refine wp_eq fun x m1 => ?_; rw [wp_bind]; refine wp_eq fun y m2 => ?_; rw [wp_bind]; refine wp_eq fun z m3 => ?_; rw [wp_bind]; refine wp_eq fun k m4 => ?_; rw [wp_if]; split
  · exact wp_bind
  · with_unfolding_all rfl
theorem add_ii {a b : Int} : addv (.int a) (.int b) m = some (.int (a + b), m) := by with_unfolding_all rfl
theorem add_ss {a b : List Nat} : addv (.str a) (.str b) m = if a.length + b.length ≤ 16777216 then some (.str (a ++ b), m) else none := by with_unfolding_all rfl
theorem sub_ii {a b : Int} : subv (.int a) (.int b) m = some (.int (a - b), m) := by with_unfolding_all rfl
theorem mul_ii {a b : Int} : mulv (.int a) (.int b) m = if (a.natAbs < 18446744073709551616 ∨ b.natAbs < 18446744073709551616) ∨ (a.natAbs < big ∧ b.natAbs < big) then some (.int (a * b), m) else none := by with_unfolding_all rfl
theorem fdiv_ii {a b : Int} : fdivv (.int a) (.int b) m = if b ≠ 0 ∧ b.natAbs < big then some (.int (a.fdiv b), m) else none := by with_unfolding_all rfl
theorem mod_ii {a b : Int} : modv (.int a) (.int b) m = if b ≠ 0 then some (.int (a.fmod b), m) else none := by with_unfolding_all rfl
theorem pow_ii {a b : Int} : powv (.int a) (.int b) m = if 0 ≤ b ∧ b ≤ 1000 ∧ a.natAbs < 18446744073709551616 then some (.int (a ^ b.toNat), m) else none := by with_unfolding_all rfl
theorem neg_i {a : Int} : negv (.int a) m = some (.int (-a), m) := by with_unfolding_all rfl
theorem cmp_ii {f : Int → Int → Bool} {a b : Int} : cmpI f (.int a) (.int b) m = some (.bl (f a b), m) := by with_unfolding_all rfl
theorem is_n {x : PV} : isNv x .non m = some (.bl (isNon x), m) := by unfold isNv; with_unfolding_all rfl
theorem not_n {x : PV} : notNv x .non m = some (.bl (!isNon x), m) := by unfold notNv; with_unfolding_all rfl
theorem non_n : isNon .non = true := by with_unfolding_all rfl
theorem non_i {a : Int} : isNon (.int a) = false := by with_unfolding_all rfl
theorem non_b {a : Bool} : isNon (.bl a) = false := by with_unfolding_all rfl
theorem non_s {a : List Nat} : isNon (.str a) = false := by with_unfolding_all rfl
theorem non_t {a : List PV} : isNon (.tup a) = false := by with_unfolding_all rfl
theorem non_r {a : Nat} : isNon (.ref a) = false := by with_unfolding_all rfl
theorem abs_i {a : Int} : absv [.int a] m = some (.int (if a < 0 then -a else a), m) := by with_unfolding_all rfl
theorem max_ii {a b : Int} : max2v [.int a, .int b] m = some (.int (if b > a then b else a), m) := by with_unfolding_all rfl
theorem min_ii {a b : Int} : min2v [.int a, .int b] m = some (.int (if b < a then b else a), m) := by with_unfolding_all rfl
theorem int_i {a : Int} : intv [.int a] m = some (.int a, m) := by with_unfolding_all rfl
theorem int_b {a : Bool} : intv [.bl a] m = some (.int (if a then 1 else 0), m) := by with_unfolding_all rfl
theorem gcd_ii {a b : Int} : gcdv [.int a, .int b] m = some (.int (Nat.gcd a.natAbs b.natAbs : Nat), m) := by with_unfolding_all rfl
theorem len_t {xs : List PV} : lenv [.tup xs] m = some (.int xs.length, m) := by with_unfolding_all rfl
theorem len_s {s : List Nat} : lenv [.str s] m = if s.length ≤ 16777216 then some (.int s.length, m) else none := by with_unfolding_all rfl
theorem len_r {n : Nat} {xs : List PV} (h : seq? m n = some xs) : lenv [.ref n] m = some (.int xs.length, m) := by
  show (seq? m n).map _ = _; rw [h]; with_unfolding_all rfl
theorem ix_t {xs : List PV} {i : Int} : ixv (.tup xs) (.int i) m = (atI xs i).map fun x => (x, m) := by with_unfolding_all rfl
theorem ix_s {s : List Nat} {i : Int} : ixv (.str s) (.int i) m = if s.length ≤ 16777216 then (atI s i).map fun c => (.str [c], m) else none := by with_unfolding_all rfl
theorem ix_r {n : Nat} {xs : List PV} {i : Int} (h : seq? m n = some xs) : ixv (.ref n) (.int i) m = (atI xs i).map fun x => (x, m) := by
  show (match seq? m n with | some xs => _ | none => _) = _; rw [h]
theorem eq_v {x y : PV} : eqv x y m = (eqV m x y).map fun b => (.bl b, m) := by with_unfolding_all rfl
theorem ne_v {x y : PV} : nev x y m = (eqV m x y).map fun b => (.bl (!b), m) := by with_unfolding_all rfl
theorem eq_ii {a b : Int} : eqV m (.int a) (.int b) = some (decide (a = b)) := by with_unfolding_all rfl
theorem eq_bb {a b : Bool} : eqV m (.bl a) (.bl b) = some (decide (a = b)) := by with_unfolding_all rfl
theorem eq_ss {a b : List Nat} : eqV m (.str a) (.str b) = some (decide (a = b)) := by with_unfolding_all rfl
theorem eq_nn : eqV m .non .non = some true := by with_unfolding_all rfl
theorem eq_in {a : Int} : eqV m (.int a) .non = some false := by with_unfolding_all rfl
theorem eq_ni {a : Int} : eqV m .non (.int a) = some false := by with_unfolding_all rfl
theorem asB_b {b : Bool} {Q : Bool → MH → Prop} : WP (asB (.bl b) m) Q E = Q b m := by with_unfolding_all rfl
theorem s_nil : WS (xNil l m) D = D.nx l m := by with_unfolding_all rfl
theorem s_seq : WS (xSeq s t l m) D = WS (s l m) { D with nx := fun l m => WS (t l m) D } := by unfold xSeq; rw [ws_seq]
theorem s_cut {mid : Loc → MH → Prop} (h : WS (s l m) { D with nx := mid }) (h2 : ∀ l m, mid l m → WS (t l m) D) : WS (xSeq s t l m) D := by
  rw [s_seq]
  exact h.mono h2 (fun _ _ h => h) (fun _ _ h => h) (fun _ _ h => h) (fun _ _ _ _ h => h)
theorem s_brk : WS (xBrk l m) D = D.bk l m := by with_unfolding_all rfl
theorem s_cnt : WS (xCnt l m) D = D.ct l m := by with_unfolding_all rfl
theorem s_expr : WS (xExpr a l m) D = WP (a l m) (fun _ m1 => D.nx l m1) (fun c fs m => D.ex c fs l m) := by unfold xExpr; rw [ws_then]; with_unfolding_all rfl
theorem s_ret : WS (xRet a l m) D = WP (a l m) (fun x m1 => D.rt x m1) (fun c fs m => D.ex c fs l m) := by unfold xRet; rw [ws_then]; with_unfolding_all rfl
theorem s_retN : WS (xRetN l m) D = D.rt .non m := by with_unfolding_all rfl
theorem s_if : WS (xIf ta s t l m) D = WP (ta l m) (fun k m1 => if k = true then WS (s l m1) D else WS (t l m1) D) (fun c fs m => D.ex c fs l m) := by unfold xIf; rw [ws_then]; refine wp_eq fun k m1 => ?_; rw [ws_if]
theorem s_asn {i : Nat} : WS (xSet i a l m) D = WP (a l m) (fun x m1 => D.nx (l.set i (some x)) m1) (fun c fs m => D.ex c fs l m) := by unfold xSet; rw [ws_then]; with_unfolding_all rfl
theorem s_par {i j : Nat} : WS (xPar i j a b l m) D = WP (a l m) (fun x m1 => WP (b l m1) (fun y m2 => D.nx ((l.set i (some x)).set j (some y)) m2) (fun c fs m => D.ex c fs l m)) (fun c fs m => D.ex c fs l m) := by unfold xPar; rw [ws_then]; exact wp_eq fun x m1 => by rw [ws_then]; exact wp_eq fun y m2 => ws_nx
theorem s_asg {g : STg} : WS (xAsg a g l m) D = WP (a l m) (fun x m1 => WG (g x l m1) D.nx) (fun c fs m => D.ex c fs l m) := by
  unfold xAsg; rw [ws_then]; refine wp_eq fun x m1 => ?_; cases g x l m1 <;> with_unfolding_all rfl
theorem g_nm {i : Nat} {x : PV} {Q : Loc → MH → Prop} : WG (gNm i x l m) Q = Q (l.set i (some x)) m := by with_unfolding_all rfl
theorem g_nil {Q : Loc → MH → Prop} : WG (gNilS [] l m) Q = Q l m := by with_unfolding_all rfl
theorem g_cons {g : STg} {r : STgs} {x : PV} {xs : List PV} {Q : Loc → MH → Prop} : WG (gConsS g r (x :: xs) l m) Q = WG (g x l m) (fun l m => WG (r xs l m) Q) := by
  unfold gConsS; dsimp only; cases g x l m <;> with_unfolding_all rfl
theorem g_tupT {n : Nat} {g : STgs} {xs : List PV} {Q : Loc → MH → Prop} : WG (gTupS n g (.tup xs) l m) Q = (xs.length = n ∧ WG (g xs l m) Q) := by
  unfold gTupS
  by_cases h : xs.length = n
  · simp only [if_pos h]; simp [h]
  · simp only [if_neg h]; simp [h, WG]
theorem g_subW {o i : SE} {x : PV} {Q : Loc → MH → Prop} : WG (gSubS o i x l m) Q = WP (o l m) (fun ov m1 => WP (i l m1) (fun iv m2 => match setv ov iv x m2 with | some m3 => Q l m3 | none => False) NoE) NoE := by
  unfold gSubS
  cases o l m with
  | ok ov m1 =>
    simp only [wp_ok]
    cases i l m1 with
    | ok iv m2 => simp only [wp_ok]; cases setv ov iv x m2 <;> with_unfolding_all rfl
    | ex _ _ _ => with_unfolding_all rfl
    | bad => with_unfolding_all rfl
  | ex _ _ _ => with_unfolding_all rfl
  | bad => with_unfolding_all rfl
theorem wp_fn {n N : Nat} {b : SS} {xs : List PV} : WP (fnS n N b xs m) Q E = (xs.length = n ∧ WS (b (xs.map some ++ List.replicate (N - n) none) m) ⟨fun _ m => Q .non m, Q, fun _ _ => False, fun _ _ => False, fun c fs _ m => E c fs m⟩) := by
  unfold fnS
  by_cases h : xs.length = n
  · rw [if_pos h]
    cases b (xs.map some ++ List.replicate (N - n) none) m <;> simp [h, WP, WS]
  · rw [if_neg h]; simp [h, wp_bad]
theorem ws_forL {it : ITM} {g : STg} {body : SS} {D : ED} (I : Nat → Loc → MH → Prop)
    (hs : ∀ i x l m, it.items[i]? = some x → I i l m → it.ok m ∧ WG (g x l m) (fun l1 m1 => WS (body l1 m1) ⟨I (i + 1), D.rt, D.nx, I (i + 1), D.ex⟩))
    (hd : ∀ l m, I it.items.length l m → it.ok m ∧ D.nx l m) : ∀ (k i : Nat) (l : Loc) (m : MH), k + i = it.items.length → I i l m → WS (forL it g body (it.items.drop i) l m) D
  | 0, i, l, m, e, h => by
    have e' : i = it.items.length := by omega
    subst e'
    rw [List.drop_of_length_le (Nat.le_refl _)]
    obtain ⟨h1, h2⟩ := hd l m h
    unfold forL
    rw [if_pos h1, ws_nx]
    exact h2
  | k + 1, i, l, m, e, h => by
    have hi : i < it.items.length := by omega
    rw [List.drop_eq_getElem_cons hi]
    obtain ⟨h1, h2⟩ := hs i _ l m (List.getElem?_eq_getElem hi) h
    unfold forL
    rw [if_pos h1]
    cases hg : g it.items[i] l m with
    | none => rw [hg] at h2; unfold WG at h2; exact h2.elim
    | some p =>
      obtain ⟨l1, m1⟩ := p
      rw [hg] at h2
      have h3 : WS (body l1 m1) ⟨I (i + 1), D.rt, D.nx, I (i + 1), D.ex⟩ := by unfold WG at h2; exact h2
      dsimp only
      cases hb : body l1 m1 with
      | nx l2 m2 => rw [hb, ws_nx] at h3; exact ws_forL I hs hd k (i + 1) l2 m2 (by omega) h3
      | ct l2 m2 => rw [hb, ws_ct] at h3; exact ws_forL I hs hd k (i + 1) l2 m2 (by omega) h3
      | bk l2 m2 => rw [hb, ws_bk] at h3; dsimp only; rw [ws_nx]; exact h3
      | rt x m2 => rw [hb, ws_rt] at h3; dsimp only; rw [ws_rt]; exact h3
      | ex c fs l2 m2 => rw [hb] at h3; dsimp only; unfold WS at h3 ⊢; exact h3
      | bad => rw [hb, ws_bad] at h3; exact h3.elim
/-- a for: its items, an invariant by the turn -/
theorem s_for {si : SI} {g : STg} {body : SS} {it : ITM} {m1 : MH} (hsi : si l m = .ok it m1) (I : Nat → Loc → MH → Prop) (h0 : I 0 l m1)
    (hs : ∀ i x l m, it.items[i]? = some x → I i l m → it.ok m ∧ WG (g x l m) (fun l1 m1 => WS (body l1 m1) ⟨I (i + 1), D.rt, D.nx, I (i + 1), D.ex⟩))
    (hd : ∀ l m, I it.items.length l m → it.ok m ∧ D.nx l m) : WS (xFor si g body l m) D := by
  unfold xFor
  rw [hsi]
  have := ws_forL (D := D) I hs hd it.items.length 0 l m1 (by omega) h0
  rw [List.drop_zero] at this
  exact this
theorem si_rng1 {b : SE} {j : Int} {m1 : MH} (h : b l m = .ok (.int j) m1) (hj : -4611686018427387904 ≤ j ∧ j < 4611686018427387904) : iRng1S b l m = .ok ⟨rng 0 j, none⟩ m1 := by
  unfold iRng1S; rw [h]; show (if _ then _ else _) = _; rw [if_pos hj]
theorem si_rng2 {a b : SE} {i j : Int} {m1 m2 : MH} (h : a l m = .ok (.int i) m1) (h2 : b l m1 = .ok (.int j) m2) (hj : -4611686018427387904 ≤ i ∧ i < 4611686018427387904 ∧ -4611686018427387904 ≤ j ∧ j < 4611686018427387904) : iRng2S a b l m = .ok ⟨rng i j, none⟩ m2 := by
  unfold iRng2S; rw [h]; show R.bind (b l m1) _ = _; rw [h2]; show (if _ then _ else _) = _; rw [if_pos hj]
theorem rng_at {lo hi : Int} {i : Nat} {x : PV} (h : (rng lo hi)[i]? = some x) : x = .int (lo + (i : Nat)) ∧ lo + (i : Nat) < hi := by
  by_cases hi' : i < (hi - lo).toNat
  · rw [rng_get hi'] at h; cases h; exact ⟨rfl, by omega⟩
  · rw [List.getElem?_eq_none (by rw [rng_len]; omega)] at h; cases h
/-- for x in range(b) -/
theorem s_for1 {b : SE} {g : STg} {body : SS} {j : Int} {m1 : MH} (n : Nat) (hn : n = j.toNat) (h : b l m = .ok (.int j) m1) (hj : j < 4611686018427387904) (hj0 : -4611686018427387904 ≤ j) (I : Nat → Loc → MH → Prop) (h0 : I 0 l m1)
    (hs : ∀ i l m, i < n → I i l m → WG (g (.int (i : Nat)) l m) (fun l1 m1 => WS (body l1 m1) ⟨I (i + 1), D.rt, D.nx, I (i + 1), D.ex⟩))
    (hd : ∀ l m, I n l m → D.nx l m) : WS (xFor (iRng1S b) g body l m) D := by
  have e : (rng 0 j).length = n := by rw [rng_len, hn, Int.sub_zero]
  refine s_for (it := ⟨rng 0 j, none⟩) (si_rng1 h ⟨hj0, hj⟩) I h0 (fun i x l m hx hi => ⟨trivial, ?_⟩) (fun l m hi => ⟨trivial, hd l m ?_⟩)
  · have hx' : (rng 0 j)[i]? = some x := hx
    obtain ⟨rfl, h2⟩ := rng_at hx'
    have := hs i l m (by omega) hi
    rw [Int.zero_add]
    exact this
  · have hi' : I (rng 0 j).length l m := hi
    rw [e] at hi'
    exact hi'
/-- for x in range(a, b) -/
theorem s_for2 {a b : SE} {g : STg} {body : SS} {i j : Int} {m1 m2 : MH} (n : Nat) (hn : n = (j - i).toNat) (h : a l m = .ok (.int i) m1) (h2 : b l m1 = .ok (.int j) m2) (hj : -4611686018427387904 ≤ i ∧ i < 4611686018427387904 ∧ -4611686018427387904 ≤ j ∧ j < 4611686018427387904) (I : Nat → Loc → MH → Prop) (h0 : I 0 l m2)
    (hs : ∀ k l m, k < n → I k l m → WG (g (.int (i + (k : Nat))) l m) (fun l1 m1 => WS (body l1 m1) ⟨I (k + 1), D.rt, D.nx, I (k + 1), D.ex⟩))
    (hd : ∀ l m, I n l m → D.nx l m) : WS (xFor (iRng2S a b) g body l m) D := by
  have e : (rng i j).length = n := by rw [rng_len, hn]
  refine s_for (it := ⟨rng i j, none⟩) (si_rng2 h h2 hj) I h0 (fun k x l m hx hi => ⟨trivial, ?_⟩) (fun l m hi => ⟨trivial, hd l m ?_⟩)
  · have hx' : (rng i j)[k]? = some x := hx
    obtain ⟨rfl, h2⟩ := rng_at hx'
    exact hs k l m (by omega) hi
  · have hi' : I (rng i j).length l m := hi
    rw [e] at hi'
    exact hi'
/-- for x in a list that stays as it is -/
theorem s_forL {e : SE} {g : STg} {body : SS} {xs : List PV} {n : Nat} {m1 : MH} (h : e l m = .ok (.ref n) m1) (hq : seq? m1 n = some xs) (I : Nat → Loc → MH → Prop) (h0 : I 0 l m1) (hk : ∀ i l m, I i l m → seq? m n = some xs)
    (hs : ∀ i x l m, xs[i]? = some x → I i l m → WG (g x l m) (fun l1 m1 => WS (body l1 m1) ⟨I (i + 1), D.rt, D.nx, I (i + 1), D.ex⟩))
    (hd : ∀ l m, I xs.length l m → D.nx l m) : WS (xFor (iSeq e) g body l m) D :=
  s_for (it := ⟨xs, some n⟩) (by unfold iSeq; rw [h]; show (match seq? m1 n with | some xs => _ | none => _) = _; rw [hq]) I h0 (fun i x l m hx hi => ⟨hk i l m hi, hs i x l m hx hi⟩) (fun l m hi => ⟨hk _ l m hi, hd l m hi⟩)
end
theorem iv_n_list  : isTab (tyName .non) "list" = false := by rw [show isTab (tyName .non) "list" = isTab "NoneType" "list" from rfl]; decide
theorem iv_n_tuple  : isTab (tyName .non) "tuple" = false := by rw [show isTab (tyName .non) "tuple" = isTab "NoneType" "tuple" from rfl]; decide
theorem iv_n_bool  : isTab (tyName .non) "bool" = false := by rw [show isTab (tyName .non) "bool" = isTab "NoneType" "bool" from rfl]; decide
theorem iv_n_str  : isTab (tyName .non) "str" = false := by rw [show isTab (tyName .non) "str" = isTab "NoneType" "str" from rfl]; decide
theorem iv_n_int  : isTab (tyName .non) "int" = false := by rw [show isTab (tyName .non) "int" = isTab "NoneType" "int" from rfl]; decide
theorem okt_n  {m : MH} : okTy m .non = true := by with_unfolding_all rfl
theorem iv_b_list {a : Bool} : isTab (tyName (.bl a)) "list" = false := by rw [show isTab (tyName (.bl a)) "list" = isTab "bool" "list" from rfl]; decide
theorem iv_b_tuple {a : Bool} : isTab (tyName (.bl a)) "tuple" = false := by rw [show isTab (tyName (.bl a)) "tuple" = isTab "bool" "tuple" from rfl]; decide
theorem iv_b_bool {a : Bool} : isTab (tyName (.bl a)) "bool" = true := by rw [show isTab (tyName (.bl a)) "bool" = isTab "bool" "bool" from rfl]; decide
theorem iv_b_str {a : Bool} : isTab (tyName (.bl a)) "str" = false := by rw [show isTab (tyName (.bl a)) "str" = isTab "bool" "str" from rfl]; decide
theorem iv_b_int {a : Bool} : isTab (tyName (.bl a)) "int" = true := by rw [show isTab (tyName (.bl a)) "int" = isTab "bool" "int" from rfl]; decide
theorem okt_b {a : Bool} {m : MH} : okTy m (.bl a) = true := by with_unfolding_all rfl
theorem iv_i_list {a : Int} : isTab (tyName (.int a)) "list" = false := by rw [show isTab (tyName (.int a)) "list" = isTab "int" "list" from rfl]; decide
theorem iv_i_tuple {a : Int} : isTab (tyName (.int a)) "tuple" = false := by rw [show isTab (tyName (.int a)) "tuple" = isTab "int" "tuple" from rfl]; decide
theorem iv_i_bool {a : Int} : isTab (tyName (.int a)) "bool" = false := by rw [show isTab (tyName (.int a)) "bool" = isTab "int" "bool" from rfl]; decide
theorem iv_i_str {a : Int} : isTab (tyName (.int a)) "str" = false := by rw [show isTab (tyName (.int a)) "str" = isTab "int" "str" from rfl]; decide
theorem iv_i_int {a : Int} : isTab (tyName (.int a)) "int" = true := by rw [show isTab (tyName (.int a)) "int" = isTab "int" "int" from rfl]; decide
theorem okt_i {a : Int} {m : MH} : okTy m (.int a) = true := by with_unfolding_all rfl
theorem iv_s_list {a : List Nat} : isTab (tyName (.str a)) "list" = false := by rw [show isTab (tyName (.str a)) "list" = isTab "str" "list" from rfl]; decide
theorem iv_s_tuple {a : List Nat} : isTab (tyName (.str a)) "tuple" = false := by rw [show isTab (tyName (.str a)) "tuple" = isTab "str" "tuple" from rfl]; decide
theorem iv_s_bool {a : List Nat} : isTab (tyName (.str a)) "bool" = false := by rw [show isTab (tyName (.str a)) "bool" = isTab "str" "bool" from rfl]; decide
theorem iv_s_str {a : List Nat} : isTab (tyName (.str a)) "str" = true := by rw [show isTab (tyName (.str a)) "str" = isTab "str" "str" from rfl]; decide
theorem iv_s_int {a : List Nat} : isTab (tyName (.str a)) "int" = false := by rw [show isTab (tyName (.str a)) "int" = isTab "str" "int" from rfl]; decide
theorem okt_s {a : List Nat} {m : MH} : okTy m (.str a) = true := by with_unfolding_all rfl
theorem iv_t_list {a : List PV} : isTab (tyName (.tup a)) "list" = false := by rw [show isTab (tyName (.tup a)) "list" = isTab "tuple" "list" from rfl]; decide
theorem iv_t_tuple {a : List PV} : isTab (tyName (.tup a)) "tuple" = true := by rw [show isTab (tyName (.tup a)) "tuple" = isTab "tuple" "tuple" from rfl]; decide
theorem iv_t_bool {a : List PV} : isTab (tyName (.tup a)) "bool" = false := by rw [show isTab (tyName (.tup a)) "bool" = isTab "tuple" "bool" from rfl]; decide
theorem iv_t_str {a : List PV} : isTab (tyName (.tup a)) "str" = false := by rw [show isTab (tyName (.tup a)) "str" = isTab "tuple" "str" from rfl]; decide
theorem iv_t_int {a : List PV} : isTab (tyName (.tup a)) "int" = false := by rw [show isTab (tyName (.tup a)) "int" = isTab "tuple" "int" from rfl]; decide
theorem okt_t {a : List PV} {m : MH} : okTy m (.tup a) = true := by with_unfolding_all rfl
theorem iv_r_list {a : Nat} : isTab (tyName (.ref a)) "list" = true := by rw [show isTab (tyName (.ref a)) "list" = isTab "list" "list" from rfl]; decide
theorem iv_r_tuple {a : Nat} : isTab (tyName (.ref a)) "tuple" = false := by rw [show isTab (tyName (.ref a)) "tuple" = isTab "list" "tuple" from rfl]; decide
theorem iv_r_bool {a : Nat} : isTab (tyName (.ref a)) "bool" = false := by rw [show isTab (tyName (.ref a)) "bool" = isTab "list" "bool" from rfl]; decide
theorem iv_r_str {a : Nat} : isTab (tyName (.ref a)) "str" = false := by rw [show isTab (tyName (.ref a)) "str" = isTab "list" "str" from rfl]; decide
theorem iv_r_int {a : Nat} : isTab (tyName (.ref a)) "int" = false := by rw [show isTab (tyName (.ref a)) "int" = isTab "list" "int" from rfl]; decide
theorem tru_b {m : MH} {b : Bool} : truv m (.bl b) = some b := by with_unfolding_all rfl
theorem tru_i {m : MH} {i : Int} : truv m (.int i) = some (i != 0) := by with_unfolding_all rfl
theorem tru_n {m : MH} : truv m .non = some false := by with_unfolding_all rfl
theorem tru_t {m : MH} {xs : List PV} : truv m (.tup xs) = some (!xs.isEmpty) := by with_unfolding_all rfl
end SM
set_option Elab.async false
set_option linter.all false
set_option maxRecDepth 100000
set_option maxHeartbeats 1000000
namespace SM
open PySem PySem.Spec PyProof.Rows L2
def cut {α : Type} (xs : List α) (lo hi : Option Int) : List α := (xs.drop (HT.sIx xs.length 0 lo)).take (HT.sIx xs.length xs.length hi - HT.sIx xs.length 0 lo)
abbrev SO := SM.Loc → MH → R (Option Int)
def rO : Rel (Option Int) (Option Int) := fun _ _ b c => c = b
instance {K} : Stays K rO := ⟨fun _ h => h⟩
def oNone : SO := fun _ m => .ok none m
def oSome (s : SE) : SO := fun l m => (s l m).bind fun x m1 => match x with
  | .int i => .ok (some i) m1
  | _ => .bad
def slv : PV → Option Int → Option Int → MH → OR
  | .str s, lo, hi, m => if s.length ≤ 16777216 then some (.str (cut s lo hi), m) else none
  | .tup xs, lo, hi, m => some (.tup (cut xs lo hi), m)
  | .ref n, lo, hi, m => (seq? m n).map fun xs => (.ref m.length, m ++ [.lst (cut xs lo hi)])
  | _, _, _, _ => none
def sSl (a : SE) (lo hi : SO) : SE := fun l m => (a l m).bind fun x m1 => (lo l m1).bind fun i m2 => (hi l m2).bind fun j m3 => lift (slv x i j m3)
section
variable {X : Cx} {W : XM} {e o : Expr} {se : SE} {lo hi : Option Expr} {slo shi : SO} {pos p2 : Pos}
/-- a slice's bound -/
structure QP (X : Cx) (W : XM) (e : Option Expr) (s : SO) : Prop where
  po : PO X e (Rdg X.K rO W s)
theorem po_imp {e : Option Expr} {t t' : TO} (h : PO X e t) (i : ∀ σ H Q, t' σ H Q → t σ H Q) : PO X e t' := ⟨fun pins s σ H Q I q => h.run pins s σ H Q I (i σ H Q q)⟩
theorem p_none : QP X W none oNone := ⟨po_imp po_none fun σ H Q ⟨φ, l, m, h1, h2, h3⟩ => h3 φ H none Ext.refl h1 rfl⟩
theorem p_some (h : QE X W e se) : QP X W (some e) (oSome se) := ⟨po_imp (po_some h.pe) fun σ H Q q => (one q).mono fun v H1 ⟨φ, m, x, l, c1, c2, c3⟩ => by
  cases x with
  | int i => cases c2; exact ⟨i, rfl, c3 φ H1 _ Ext.refl c1 rfl⟩
  | _ => exact c3.elim⟩
theorem cut_rvs {K : PySem.W.Frag} {H : Hp} {φ : List Addr} {xs : List PV} {vs : List V} (h : RVs K H φ xs vs) (lo hi : Option Int) : RVs K H φ (cut xs lo hi) (cutV vs lo hi) := by
  unfold cut cutV
  rw [h.length]
  exact (h.drop _).take _
theorem cut_whole {α : Type} {xs : List α} {lo hi : Option Int} (h : HT.sIx xs.length 0 lo = 0 ∧ HT.sIx xs.length xs.length hi = xs.length) : cut xs lo hi = xs := by
  unfold cut; rw [h.1, h.2]; simp
theorem cut_str (s : List Nat) (lo hi : Option Int) : cutS ⟨s.toArray⟩ lo hi = ⟨(cut s lo hi).toArray⟩ := by
  unfold cutS cut
  rw [str_len]
theorem s_slice : SlR X (fun v lo hi H Q => ∃ φ m x, RH X.K H φ m ∧ RV X.K H φ x v ∧ PostO X.K φ H (slv x lo hi m) Q) := by
  intro pins s σ H v u vl vu lo hi sl Q I rv hs pl pu ⟨φ, m, x, h1, h2, h3⟩
  cases x with
  | str z =>
    cases h2
    have h4 : PostO X.K φ H (if z.length ≤ 16777216 then some (.str (cut z lo hi), m) else none) Q := h3
    split at h4
    · rename_i hz
      exact sl_str pins s σ H _ u vl vu lo hi sl Q I rv hs pl pu ⟨_, rfl, by rw [str_len, sl_eq]; exact hz, by rw [cut_str]; exact h4.same h1 rfl⟩
    · exact h4.not.elim
  | tup xs =>
    obtain ⟨a, vs, rfl, r1, r2⟩ := h2
    have h4 : PostO X.K φ H (some (.tup (cut xs lo hi), m)) Q := h3
    refine sl_tupA pins s σ H _ u vl vu lo hi sl Q I rv hs pl pu ⟨a, vs, rfl, r1, fun hw => ?_, fun _ => h4.newT h1 (cut_rvs r2 lo hi)⟩
    rw [r2.length] at hw
    rw [cut_whole hw] at h4
    exact h4.same h1 ⟨a, vs, rfl, r1, r2⟩
  | ref n =>
    have h4 : PostO X.K φ H ((seq? m n).map fun xs => (.ref m.length, m ++ [.lst (cut xs lo hi)])) Q := h3
    cases hq : seq? m n with
    | none => rw [hq] at h4; exact h4.not.elim
    | some xs =>
      rw [hq] at h4
      obtain ⟨a, vs, rfl, r1, r2⟩ := h1.seq h2 hq
      exact sl_list pins s σ H _ u vl vu _ _ sl Q I rv hs pl pu ⟨a, vs, rfl, r1, h4.newL h1 (cut_rvs r2 lo hi)⟩
  | _ => exact h3.not.elim
theorem q_slice (he : QE X W e se) (hl : QP X W lo slo) (hu : QP X W hi shi) : QE X W (.Subscript e (.Slice lo hi none p2) pos) (sSl se slo shi) :=
  ⟨pe_imp (pe_slice s_slice he.pe hl.po hu.po) fun σ H Q ⟨φ, l, m, h1, h2, h3⟩ => ⟨φ, l, m, h1, h2, (Post.bind (rel := rV X.K) h2 h3).mono fun v H1 ⟨φ1, x, m1, e1, a1, b1, c1, d1⟩ =>
    ⟨φ1, l, m1, a1, b1, (Post.bind (rel := rO) b1 d1).mono fun i H2 ⟨φ2, i', m2, e2, a2, b2, c2, d2⟩ => ⟨φ2, l, m2, a2, b2, (Post.bind (rel := rO) b2 d2).mono fun j H3 ⟨φ3, j', m3, e3, a3, b3, c3, d3⟩ => by
      cases c2; cases c3
      exact ⟨φ3, m3, x, a3, RV.ext e3 (RV.ext e2 c1), .of d3⟩⟩⟩⟩⟩
end
def cmpIS (f : Int → Int → Bool) (g : List Nat → List Nat → Bool) : PV → PV → MH → OR
  | .int a, .int b, m => some (.bl (f a b), m)
  | .str a, .str b, m => some (.bl (g a b), m)
  | _, _, _ => none
def ltv := cmpIS (fun a b => decide (a < b)) (fun a b => decide (a < b))
def lev := cmpIS (fun a b => decide (a ≤ b)) (fun a b => !decide (b < a))
def gtv := cmpIS (fun a b => decide (b < a)) (fun a b => decide (b < a))
def gev := cmpIS (fun a b => decide (b ≤ a)) (fun a b => !decide (a < b))
section
variable {X : Cx}
theorem o_cmpIS {op : CmpOp} {f : Int → Int → Bool} {g : List Nat → List Nat → Bool} (h1 : OpQ X (compareOp op) (cmpI f))
    (h2 : OpR X (compareOp op) (fun x y H Q => ∃ i j : Str, x = .str i ∧ y = .str j ∧ Q (.bl (g i.cps.toList j.cps.toList)) H)) : OpQ X (compareOp op) (cmpIS f g) := .of_eq fun v w H Q φ m x y a1 a2 a3 a4 => by
  unfold cmpIS at a4
  split at a4
  · exact ⟨_, h1, φ, m, _, _, a1, a2, a3, a4⟩
  · cases a2; cases a3
    exact ⟨_, h2, _, _, rfl, rfl, a4.same a1 rfl⟩
  · exact a4.not.elim
theorem o_lt : OpQ X (compareOp .Lt) ltv := o_cmpIS o_ltI op_lt_str
theorem o_le : OpQ X (compareOp .LtE) lev := o_cmpIS o_leI op_le_str
theorem o_gt : OpQ X (compareOp .Gt) gtv := o_cmpIS o_gtI op_gt_str
theorem o_ge : OpQ X (compareOp .GtE) gev := o_cmpIS o_geI op_ge_str
end
/-- in: a sign in a text, a thing in a tuple or list of flat things, data in a list -/
def inS : PV → PV → MH → OR
  | .str [c], .str s, m => some (.bl (decide (c ∈ s)), m)
  | x, y, m => inv x y m
section
variable {X : Cx} {k : Nat}
theorem o_inS (hr : Room k X.A) : OpQ X (compareOp .In) inS := .of_eq fun v w H Q φ m x y a1 a2 a3 a4 => by
  unfold inS at a4
  split at a4
  · cases a2; cases a3
    exact ⟨_, op_in_sign, _, _, rfl, rfl, a4.same a1 rfl⟩
  · exact ⟨_, o_in hr, φ, m, _, _, a1, a2, a3, a4⟩
theorem fold_rep (c : List Nat) : ∀ (k : Nat) (acc : Array Nat), (List.replicate k c.toArray).foldl (· ++ ·) acc = acc ++ ((List.replicate k c).flatten).toArray
  | 0, acc => by simp
  | k + 1, acc => by
    rw [List.replicate_succ, List.foldl_cons, fold_rep c k, List.replicate_succ, List.flatten_cons]
    apply Array.ext'
    simp
/-- a text some times -/
theorem op_mul_str : OpR X (binaryOp .Mult) (fun x y H Q => ∃ (c : List Nat) (n : Int), x = .str ⟨c.toArray⟩ ∧ y = .int n ∧ 0 ≤ n ∧ n ≤ 1000 ∧ c.length ≤ 1000 ∧ Q (.str ⟨((List.replicate n.toNat c).flatten).toArray⟩) H) := by
  intro pins s σ H x y v u Q I rx ry h
  obtain ⟨c, n, rfl, rfl, h0, h1, h2, q⟩ := h
  obtain ⟨t, rfl⟩ := rx
  obtain ⟨t', rfl⟩ := ry
  have hlen : (⟨c.toArray⟩ : Str).length = c.length := str_len c
  have hsz := sl_eq
  have hdiv : ¬ n < 1 → (1000 : Int) ≤ (2 ^ 63 - 1) / n := fun h => by
    rw [Int.le_ediv_iff_mul_le (by omega)]
    omega
  have hprod : c.length * n.toNat ≤ 1000 * 1000 := Nat.mul_le_mul h2 (by omega)
  refine PySem.P.mul_str (by rw [decide_eq_false (by omega), decide_eq_false (by omega)]; rfl) (fun hn _ => ?_) (fun hn _ => ?_) ?_
  · rw [hlen]
    have := hdiv hn
    omega
  · unfold Builtin.Str.tooLong
    rw [hlen]
    exact decide_eq_false (by omega)
  · by_cases hn : n < 1
    · rw [if_pos hn]
      have e : n.toNat = 0 := by omega
      rw [e] at q
      exact ⟨by decide, .str ⟨#[]⟩, H, I.tok _, ⟨_, rfl⟩, q⟩
    · rw [if_neg hn]
      by_cases h1' : (n == 1 || (⟨c.toArray⟩ : Str).length == 0) = true
      · rw [if_pos h1']
        have e : (List.replicate n.toNat c).flatten = c := by
          rw [hlen] at h1'
          rcases (by simpa using h1' : n = 1 ∨ c = []) with rfl | rfl
          · simp
          · simp
        rw [e] at q
        exact ⟨.str ⟨c.toArray⟩, H, I, ⟨_, rfl⟩, q⟩
      · rw [if_neg h1', fold_rep]
        have e : (#[] : Array Nat) ++ ((List.replicate n.toNat c).flatten).toArray = ((List.replicate n.toNat c).flatten).toArray := by simp
        rw [e]
        refine ⟨?_, .str ⟨((List.replicate n.toNat c).flatten).toArray⟩, H, I.tok _, ⟨_, rfl⟩, q⟩
        rw [str_len, List.length_flatten]
        simp
        rw [Nat.mul_comm]
        omega
def mulvS : PV → PV → MH → OR
  | .str c, .int n, m => if 0 ≤ n ∧ n ≤ 1000 ∧ c.length ≤ 1000 then some (.str (List.replicate n.toNat c).flatten, m) else none
  | .ref i, .int n, m => match lst? m i with
    | some xs => if 0 ≤ n ∧ n ≤ 1000 ∧ xs.length ≤ 1000 then some (.ref m.length, m ++ [.lst (List.replicate n.toNat xs).flatten]) else none
    | none => none
  | x, y, m => mulv x y m
theorem RVs.rep {K : PySem.W.Frag} {H : Hp} {φ : List Addr} {xs : List PV} {vs : List V} (h : RVs K H φ xs vs) : ∀ n : Nat, RVs K H φ (List.replicate n xs).flatten (List.replicate n vs).flatten
  | 0 => rfl
  | n + 1 => by
    rw [List.replicate_succ, List.replicate_succ, List.flatten_cons, List.flatten_cons]
    exact h.append (RVs.rep h n)
theorem o_mulS : OpQ X (binaryOp .Mult) mulvS := .of_eq fun v w H Q φ m x y a1 a2 a3 a4 => by
  unfold mulvS at a4
  split at a4
  · cases a2; cases a3
    split at a4
    · rename_i hz
      exact ⟨_, op_mul_str, _, _, rfl, rfl, hz.1, hz.2.1, hz.2.2, a4.same a1 rfl⟩
    · exact a4.not.elim
  · cases a3
    split at a4
    · rename_i xs hs
      obtain ⟨p, vs, _, rfl, q1, q2⟩ := a1.lst a2 hs
      split at a4
      · rename_i hz
        refine ⟨_, op_rep, p, _, vs, rfl, rfl, q1, by omega, by omega, ?_, a4.newL a1 (q2.rep _)⟩
        rw [q2.length, sl_eq]
        exact Nat.le_trans (Nat.mul_le_mul hz.2.2 (Int.toNat_le.mpr hz.2.1)) (by decide)
      · exact a4.not.elim
    · exact a4.not.elim
  · exact ⟨_, o_mul, φ, m, _, _, a1, a2, a3, a4⟩
end
def xAug (i : Nat) (op : PV → PV → MH → OR) (e : SE) : SS := fun l m => R.then l (sVar i l m) fun x m1 => R.then l (e l m1) fun y m2 => R.then l (lift (op x y m2)) fun z m3 => .nx (l.set i (some z)) m3
def iaddv : PV → PV → MH → OR
  | .int a, .int b, m => some (.int (a + b), m)
  | .str a, .str b, m => if a.length + b.length ≤ 16777216 then some (.str (a ++ b), m) else none
  | _, _, _ => none
def isubv : PV → PV → MH → OR
  | .int a, .int b, m => some (.int (a - b), m)
  | _, _, _ => none
def PIpQ (X : Cx) (op : Operator) (f : PV → PV → MH → OR) : Prop := PIp X op (fun v w H Q => ∃ φ m x y, RH X.K H φ m ∧ RV X.K H φ x v ∧ RV X.K H φ y w ∧ PostO X.K φ H (f x y m) Q)
section
variable {X : Cx} {W : XM} {e : Expr} {se : SE} {pos : Pos}
theorem ia_add : PIpQ X .Add iaddv := by
  intro pins s σ H v w vv ww Q I rv rw' ⟨φ, m, x, y, h1, h2, h3, h4⟩
  unfold iaddv at h4
  split at h4
  · cases h2; cases h3
    exact iop_add pins s σ H _ _ vv ww Q I rv rw' ⟨_, _, rfl, rfl, h4.same h1 rfl⟩
  · cases h2; cases h3
    split at h4
    · rename_i hz
      exact iop_add_str pins s σ H _ _ vv ww Q I rv rw' ⟨_, _, rfl, rfl, by rw [str_len, str_len, sl_eq]; exact hz, by rw [str_app]; exact h4.same h1 rfl⟩
    · exact h4.not.elim
  · exact h4.not.elim
theorem x_aug (i : Nat) {x : Str} {op : Operator} {f : PV → PV → MH → OR} {pos' : Pos} (hN : X.N.Nodup) (ho : PIpQ X op f) (he : QE X W e se) (hi : X.N[i]? = some x := by rfl) (hx : L2.Loc X.env.scope x := by first | exact .inl rfl | exact .inr rfl)
    (hf : X.fn x = true ∨ X.env.scope.names.lookup x = some .local := by first | exact .inl rfl | exact .inr rfl) : QS X W (.AugAssign (.Name x pos') op e pos) (xAug i f se) :=
  ⟨ps_imp (ps_aug hN hi hx he.pe ho hf) fun D σ H ⟨φ, l, m, h1, h2, h3⟩ => by
    unfold xAug sVar at h3
    cases hl : l[i]? with
    | none => rw [hl] at h3; exact h3.elim
    | some o =>
      cases o with
      | none => rw [hl] at h3; exact h3.elim
      | some x =>
        rw [hl] at h3
        have h3 : PostS X.K W φ H (R.then l (se l m) fun y m2 => R.then l (lift (f x y m2)) fun z m3 => .nx (l.set i (some z)) m3) D := h3
        obtain ⟨v, e1, e2⟩ := h2.2 i x hl
        refine ⟨v, e1, φ, l, m, h1, h2, (PostS.then (rel := rV X.K) h2 h3).mono fun w H1 ⟨φ1, y, m1, x1, a1, b1, c1, d1⟩ => ?_⟩
        have d2 := PostS.then (rel := rV X.K) b1 d1
        obtain ⟨z, m3, ez, q⟩ := PostO.of (Q := fun z H2 => D.nx (σ.set i (some z)) H2) (W := W) (l := l) (σ := σ) (d2.mono fun z H2 ⟨φ2, zz, m3, x2, a2, b2, c2, d3⟩ => d3 φ2 _ H2 Ext.refl a2 (b2.set i c2))
        exact ⟨φ1, m1, x, y, a1, RV.ext x1 e2, c1, z, m3, ez, q⟩⟩
theorem q_globI {x : Str} {i : Int} {t : Tok} (hg : Gl X x) (hm : X.mg x = some (.int i t)) (hd : (x == ("__debug__" : Str)) = false := by decide) : QE X W (.Name x pos) (sC (.int i)) := ⟨pe_imp (pe_glob (v := .int i) hg hm ⟨t, rfl⟩ hd) fun σ H Q ⟨φ, l, m, h1, h2, h3⟩ => h3 φ H _ Ext.refl h1 rfl⟩
end
end SM
set_option Elab.async false
set_option linter.all false
set_option maxRecDepth 100000
set_option maxHeartbeats 1000000
namespace SM
open PySem PySem.Spec PyProof.Rows L2
def whileL (t : SB) (body : SS) : Nat → SM.Loc → MH → RS
  | 0, _, _ => .bad
  | n + 1, l, m => R.then l (t l m) fun b m1 => if b = true then match body l m1 with
      | .nx l2 m2 => whileL t body n l2 m2
      | .ct l2 m2 => whileL t body n l2 m2
      | .bk l2 m2 => .nx l2 m2
      | r => r
    else .nx l m1
@[irreducible] def wfuel : Nat := 1000000
theorem wfuel_eq : wfuel = 1000000 := by unfold wfuel; rfl
def xWhile (t : SB) (body : SS) : SS := fun l m => whileL t body wfuel l m
section
variable {X : Cx} {W : XM} {c : Expr} {body : List Stmt} {t : SB} {sb : SS} {pos : Pos}
theorem x_while (hp : PassesOwn (model X.prog X.w) X.A X.env X.xe) (hc : QT X W c t) (hb : QSs X W body sb) : QS X W (.While c body [] pos) (xWhile t sb) := ⟨ps_imp (ps_while hp hc.pt hb.ps) fun D σ H ⟨φ, l, m, h1, h2, h3⟩ => by
  refine ⟨fun n σ H => ∃ φ l m, RH X.K H φ m ∧ RL X.K H φ l σ ∧ PostS X.K W φ H (whileL t sb n l m) D, ⟨wfuel, φ, l, m, h1, h2, h3⟩, ?_⟩
  rintro n σ1 H1 ⟨φ1, l1, m1, a1, b1, c1⟩
  cases n with
  | zero => exact c1.elim
  | succ n =>
    unfold whileL at c1
    refine ⟨φ1, l1, m1, a1, b1, (PostS.then (rel := rB) b1 c1).mono ?_⟩
    rintro v H2 ⟨φ2, x, m2, e2, a2, b2, hx, d2⟩
    cases hx
    cases v with
    | false => exact iteF (d2 φ2 σ1 H2 Ext.refl a2 b2)
    | true =>
      have d2 : PostS X.K W φ2 H2 (match sb l1 m2 with
        | .nx l2 m2 => whileL t sb n l2 m2
        | .ct l2 m2 => whileL t sb n l2 m2
        | .bk l2 m2 => .nx l2 m2
        | r => r) D := d2
      refine iteT ⟨fun σ' H' => ∃ φ l m, RH X.K H' φ m ∧ RL X.K H' φ l σ' ∧ PostS X.K W φ H' (whileL t sb n l m) D, fun σ' H' w => ⟨n, Nat.lt_succ_self n, w⟩, φ2, l1, m2, a2, b2, ?_⟩
      cases hb : sb l1 m2 with
      | nx l4 m4 => rw [hb] at d2; exact fun φ4 σ4 H4 x4 a4 b4 => ⟨φ4, l4, m4, a4, b4, PostS.ext x4 d2⟩
      | ct l4 m4 => rw [hb] at d2; exact fun φ4 σ4 H4 x4 a4 b4 => ⟨φ4, l4, m4, a4, b4, PostS.ext x4 d2⟩
      | bk l4 m4 => rw [hb] at d2; exact d2
      | rt x m4 => rw [hb] at d2; exact d2
      | ex c fs l4 m4 => rw [hb] at d2; exact d2
      | bad => rw [hb] at d2; exact d2⟩
end
def wipeP (l : SM.Loc) : List Nat → SM.Loc
  | [] => l
  | v :: vs => (wipeP l vs).set v none
theorem RL.wipe {K : PySem.W.Frag} {H : Hp} {φ : List Addr} {l : SM.Loc} {σ : L2.St} (h : RL K H φ l σ) : ∀ vs : List Nat, RL K H φ (wipeP l vs) (wipe σ vs)
  | [] => h
  | v :: vs => by
    have ih := RL.wipe h vs
    unfold wipeP L2.wipe
    refine ⟨by simp [ih.1], fun i x e => ?_⟩
    by_cases hi : v = i
    · subst hi
      by_cases hl : v < (wipeP l vs).length
      · rw [List.getElem?_set_self hl] at e; cases e
      · rw [List.getElem?_eq_none (by simp; omega)] at e; cases e
    · rw [List.getElem?_set_ne hi] at e
      obtain ⟨w, e1, e2⟩ := ih.2 i x e
      exact ⟨w, by rw [List.getElem?_set_ne hi]; exact e1, e2⟩
open Classical in
noncomputable def compL (it : ITM) (g : STg) (t : SB) (e : SE) (d : Nat) (l0 : SM.Loc) : List PV → MH → R PV
  | [], m => if it.ok m then .ok (.ref d) m else .bad
  | x :: r, m => if it.ok m then match g x l0 m with
      | some (l1, m1) => match t l1 m1 with
        | .ok b m2 => if b = true then match e l1 m2 with
            | .ok y m3 => match lst? m3 d with
              | some acc => if acc.length < 16777216 then compL it g t e d l0 r (m3.set d (.lst (acc ++ [y]))) else .bad
              | none => .bad
            | _ => .bad
          else compL it g t e d l0 r m2
        | _ => .bad
      | none => .bad
    else .bad
noncomputable def sLc (si : SI) (g : STg) (t : SB) (e : SE) (vs : List Nat) : SE := fun l m => (si l m).bind fun it m1 => compL it g t e m1.length (wipeP l vs) it.items (m1 ++ [.lst []])
/-- what a test list reads: none, one -/
def tYesS : SB := fun _ m => .ok true m
/-- targets whose slots are known: a name, names in a tuple -/
structure QN (X : Cx) (tg : Expr) (g : STg) (vs : List Nat) : Prop where
  pg : PG X tg (fun v σ H Q => ∃ φ l m x, RH X.K H φ m ∧ RL X.K H φ l σ ∧ RV X.K H φ x v ∧ ∃ l' m', g x l m = some (l', m') ∧ ∀ φ' σ' H', wipe σ' vs = wipe σ vs → Ext X.K φ H φ' H' → RH X.K H' φ' m' → RL X.K H' φ' l' σ' → Q σ' H')
theorem wipe_set {σ : L2.St} {i : Nat} {x : Option V} : ∀ {vs : List Nat}, i ∈ vs → wipe (σ.set i x) vs = wipe σ vs
  | [], h => by cases h
  | v :: vs, h => by
    unfold wipe
    by_cases hv : i ∈ vs
    · rw [wipe_set hv]
    · have e : v = i := by
        rcases List.mem_cons.mp h with q | q
        · exact q.symm
        · exact absurd q hv
      subst e
      have e2 : wipe (σ.set v x) vs = (wipe σ vs).set v x := by
        clear h
        induction vs with
        | nil => rfl
        | cons u us ih =>
          have hne : v ≠ u := fun z => hv (by rw [z]; exact List.mem_cons_self)
          unfold wipe
          rw [ih (fun z => hv (List.mem_cons_of_mem _ z)), List.set_comm _ _ hne]
      rw [e2, List.set_set]
section
variable {X : Cx} {pos : Pos}
theorem n_name (i : Nat) {vs : List Nat} {x : Str} (hN : X.N.Nodup) (hv : i ∈ vs) (hi : X.N[i]? = some x := by rfl) (hx : L2.Loc X.env.scope x := by first | exact .inl rfl | exact .inr rfl) (hf : X.fn x = true ∨ X.env.scope.names.lookup x = some .local := by first | exact .inl rfl | exact .inr rfl) : QN X (.Name x pos) (gNm i) vs :=
  ⟨pg_imp (pg_name hN hi hx hf) fun v σ H Q ⟨φ, l, m, x, h1, h2, h3, l', m', e, q⟩ => by
    cases e
    exact q φ _ H (wipe_set hv) Ext.refl h1 (h2.set i h3)⟩
structure QNs (X : Cx) (tg : List Expr) (g : STgs) (vs : List Nat) : Prop where
  pg : PGs X tg (fun v σ H Q => ∃ φ l m x, RH X.K H φ m ∧ RL X.K H φ l σ ∧ RVs X.K H φ x v ∧ ∃ l' m', g x l m = some (l', m') ∧ ∀ φ' σ' H', wipe σ' vs = wipe σ vs → Ext X.K φ H φ' H' → RH X.K H' φ' m' → RL X.K H' φ' l' σ' → Q σ' H')
theorem ns_nil {vs : List Nat} : QNs X [] gNilS vs := ⟨pgs_imp pgs_nil fun v σ H Q ⟨φ, l, m, x, h1, h2, h3, l', m', e, q⟩ => by
  unfold gNilS at e
  split at e
  · cases h3
    cases e
    exact ⟨rfl, q φ _ H rfl Ext.refl h1 h2⟩
  · cases e⟩
theorem ns_cons {e : Expr} {es : List Expr} {g : STg} {r : STgs} {vs : List Nat} (h1 : QN X e g vs) (h2 : QNs X es r vs) (hs : (assignEach (e :: es) X.env).map (·.2) = assign e X.env :: (assignEach es X.env).map (·.2) := by rfl) : QNs X (e :: es) (gConsS g r) vs :=
  ⟨pgs_imp (pgs_cons h1.pg h2.pg hs) fun v σ H Q ⟨φ, l, m, x, h1, h2, h3, l', m', e, q⟩ => by
    unfold gConsS at e
    split at e
    · rename_i x xs
      obtain ⟨w, ws, rfl, r1, r2⟩ := h3
      split at e
      · rename_i l1 m1 e1
        exact ⟨w, ws, rfl, φ, l, m, x, h1, h2, r1, l1, m1, e1, fun φ1 σ1 H1 w1 x1 a1 b1 => ⟨φ1, l1, m1, xs, a1, b1, RVs.ext x1 r2, l', m', e, fun φ2 σ2 H2 w2 x2 a2 b2 => q φ2 σ2 H2 (w2.trans w1) (x1.trans x2) a2 b2⟩⟩
      · cases e
    · cases e⟩
theorem n_tup {es : List Expr} {k n : Nat} {g : STgs} {vs : List Nat} (hc : X.calm = true) (h : QNs X es g vs) (hn : (assignEach es X.env).length = n := by rfl) (hst : (assignEach es X.env).findIdx? (·.1) = none := by rfl) : QN X (.Tuple es k pos) (gTupS n g) vs :=
  ⟨pg_imp (pg_or (pg_tup hc h.pg hn hst) (pg_unl hc h.pg hn hst)) fun v σ H Q ⟨φ, l, m, x, h1, h2, h3, l', m', e, q⟩ => by
    unfold gTupS at e
    split at e
    · obtain ⟨a, us, rfl, r1, r2⟩ := h3
      split at e
      · rename_i hz
        exact .inl ⟨a, us, rfl, r1, by rw [r2.length]; exact hz, φ, l, m, _, h1, h2, r2, l', m', e, q⟩
      · cases e
    · split at e
      · rename_i xs hs
        obtain ⟨a, us, rfl, r1, r2⟩ := h1.seq h3 hs
        split at e
        · rename_i hz
          exact .inr ⟨a, us, rfl, r1, by rw [r2.length]; exact hz, φ, l, m, _, h1, h2, r2, l', m', e, q⟩
        · cases e
      · cases e
    · cases e⟩
end
structure QTs (X : Cx) (W : XM) (e : List Expr) (s : SB) : Prop where
  pt : PTs X e (Rdg X.K rB W s)
section
variable {X : Cx} {W : XM} {e : Expr} {s : SB}
theorem ts_nil : QTs X W [] tYesS := ⟨⟨fun pins s σ H Q I ⟨φ, l, m, h1, h2, h3⟩ => pts_nil.run pins s σ H Q I (h3 φ H true Ext.refl h1 rfl)⟩⟩
variable {elt tg iter : Expr} {ifs : List Expr} {scope : Scope} {own : List (Str × Nat)} {pos : Pos} {si : SI} {g : STg} {t : SB} {se : SE}
theorem wipe_sub {σ : L2.St} {vs : List Nat} : ∀ us : List Nat, (∀ u ∈ us, u ∈ vs) → wipe (wipe σ vs) us = wipe σ vs
  | [], _ => rfl
  | u :: us, h => by
    show (wipe (wipe σ vs) us).set u none = wipe σ vs
    rw [wipe_sub us fun x hx => h x (List.mem_cons_of_mem _ hx)]
    have hu := h u List.mem_cons_self
    apply List.ext_getElem?
    intro i
    by_cases hi : u = i
    · subst hi
      by_cases hl : u < (wipe σ vs).length
      · rw [List.getElem?_set_self hl]
        cases hw : (wipe σ vs)[u]? with
        | none => rw [List.getElem?_eq_none_iff] at hw; omega
        | some o =>
          cases o with
          | none => rfl
          | some x => exact absurd hu (wipe_some hw).2
      · rw [List.getElem?_eq_none (by simp; omega), List.getElem?_eq_none (by omega)]
    · rw [List.getElem?_set_ne hi]
/-- the reading of a comprehension from the reckoning -/
theorem lc_at {Q : VK} {σ : L2.St} {H : Hp} {vs : List Nat} (h : Rdg X.K (rV X.K) W (sLc si g t se vs) σ H Q) :
    tLc (RdI X.K W si) (fun v σ H Q => ∃ φ l m x, RH X.K H φ m ∧ RL X.K H φ l σ ∧ RV X.K H φ x v ∧ ∃ l' m', g x l m = some (l', m') ∧ ∀ φ' σ' H', wipe σ' vs = wipe σ vs → Ext X.K φ H φ' H' → RH X.K H' φ' m' → RL X.K H' φ' l' σ' → Q σ' H')
      (Rdg X.K rB W0 t) (Rdg X.K (rV X.K) W0 se) vs σ H Q := by
  obtain ⟨φ, l, m, h1, h2, h3⟩ := h
  refine ⟨φ, l, m, h1, h2, ?_⟩
  unfold sLc at h3
  cases hsi : si l m with
  | bad => rw [hsi] at h3; exact h3
  | ex c fs m' => rw [hsi] at h3; exact h3
  | ok it m1 =>
    rw [hsi] at h3
    have h3 : Post X.K (rV X.K) W φ l σ H (compL it g t se m1.length (wipeP l vs) it.items (m1 ++ [.lst []])) Q := h3
    intro φ1 H1 J x1 a1 w D nD
    have hlen := a1.len
    refine lc_it (g := fun v σ H Q => ∃ φ l m x, RH X.K H φ m ∧ RL X.K H φ l σ ∧ RV X.K H φ x v ∧ ∃ l' m', g x l m = some (l', m') ∧ ∀ φ' σ' H', wipe σ' vs = wipe σ vs → Ext X.K φ H φ' H' → RH X.K H' φ' m' → RL X.K H' φ' l' σ' → Q σ' H') (tt := Rdg X.K rB W0 t) (te := Rdg X.K (rV X.K) W0 se) (vs := vs) (σ := σ) (H1 := H1) (D := D) (Qd := fun H => Q (.ref D) H) w (fun i H2 => ∃ φ2 m2, Ext X.K φ1 H1 φ2 H2 ∧ RH X.K H2 φ2 m2 ∧ φ2[m1.length]? = some D ∧ Post X.K (rV X.K) W φ2 l σ H2 (compL it g t se m1.length (wipeP l vs) (it.items.drop i) m2) Q) ?_ ?_ ?_ ?_
    · obtain ⟨e2, a2, r2⟩ := a1.newL nD (show RVs X.K H1 φ1 [] [] from rfl)
      exact ⟨_, _, e2, a2, by rw [← hlen]; simp, Post.ext (x1.trans e2) h3⟩
    · rintro i H2 hi ⟨φ2, m2, x2, a2, d2, p2⟩
      refine ⟨φ2, m2, x2, a2, ?_⟩
      cases hd : it.items.drop i with
      | nil =>
        rw [hd] at p2
        unfold compL at p2
        by_cases hk : it.ok m2
        · exact hk
        · rw [if_neg hk] at p2; exact p2.elim
      | cons x r =>
        rw [hd] at p2
        unfold compL at p2
        by_cases hk : it.ok m2
        · exact hk
        · rw [if_neg hk] at p2; exact p2.elim
    · rintro i v H2 H2' hi ⟨φ2, m2, x2, a2, d2, p2⟩ ⟨rfl, hv⟩
      have hi' : i < it.items.length := hi
      rw [List.drop_eq_getElem_cons hi'] at p2
      unfold compL at p2
      by_cases hk : it.ok m2
      · rw [if_pos hk] at p2
        obtain ⟨x0', hx1, hx2⟩ := hv φ2 m2 x2 a2 hk
        rw [List.getElem?_eq_getElem hi'] at hx1
        cases hx1
        cases hgx : g it.items[i] (wipeP l vs) m2 with
        | none => rw [hgx] at p2; exact p2.elim
        | some p =>
          obtain ⟨l3, m3⟩ := p
          rw [hgx] at p2
          dsimp only at p2
          refine ⟨φ2, wipeP l vs, m2, _, a2, (h2.ext (x1.trans x2)).wipe vs, hx2, l3, m3, hgx, fun φ3 σ3 H3 w3 x3 a3 b3 => ⟨by rw [w3, wipe_sub vs fun _ h => h], φ3, l3, m3, a3, b3, ?_⟩⟩
          have p3 := Post.ext x3 p2
          cases ht : t l3 m3 with
          | bad => rw [ht] at p3; exact p3
          | ex c fs m' => rw [ht] at p3; exact p3.elim
          | ok b m4 =>
            rw [ht] at p3
            dsimp only at p3
            intro φ4 H4 b' x4 a4 hb
            cases hb
            cases b with
            | false => exact iteF ⟨φ4, m4, (x2.trans x3).trans x4, a4, x4.get (x3.get d2), Post.ext x4 p3⟩
            | true =>
              rw [if_pos rfl] at p3
              refine iteT ⟨φ4, l3, m4, a4, b3.ext x4, ?_⟩
              have p4 := Post.ext x4 p3
              cases he : se l3 m4 with
              | bad => rw [he] at p4; exact p4
              | ex c fs m' => rw [he] at p4; exact p4.elim
              | ok y m5 =>
                rw [he] at p4
                dsimp only at p4
                intro φ5 H5 u x5 a5 r5
                cases hl : lst? m5 m1.length with
                | none => rw [hl] at p4; exact p4.elim
                | some acc =>
                  rw [hl] at p4
                  dsimp only at p4
                  have d5 : φ5[m1.length]? = some D := x5.get (x4.get (x3.get d2))
                  obtain ⟨D', us, e1, e2, e3, e4⟩ := a5.lst (n := m1.length) (v := .ref D) ⟨D, d5, rfl⟩ hl
                  cases e2
                  by_cases hz : acc.length < 16777216
                  · rw [if_pos hz] at p4
                    obtain ⟨f1, f2⟩ := a5.setL d5 (lst_some hl) (e4.append (show RVs X.K H5 φ5 [y] [u] from ⟨u, [], rfl, r5, rfl⟩))
                    exact ⟨us, e3, by rw [e4.length, sl_eq]; exact hz, φ5, _, (((x2.trans x3).trans x4).trans x5).trans f1, f2, f1.get d5, Post.ext (x5.trans f1) p4⟩
                  · rw [if_neg hz] at p4; exact p4.elim
      · rw [if_neg hk] at p2; exact p2.elim
    · rintro H2 ⟨φ2, m2, x2, a2, d2, p2⟩
      rw [List.drop_of_length_le (Nat.le_refl _)] at p2
      unfold compL at p2
      by_cases hk : it.ok m2
      · rw [if_pos hk] at p2
        exact p2 φ2 H2 (.ref D) Ext.refl a2 ⟨D, d2, rfl⟩
      · rw [if_neg hk] at p2; exact p2.elim
theorem q_lc (hc : X.calm = true) (hN : X.N.Nodup) (hi : QI X W tg iter si) (ok : BlkOk X.N X.env.scope scope own)
    (hg : ∀ (s : Shared) (H : Hp) (C : Addr) (cl : List (Str × Addr)) (fp : List Addr), QN (X.blk s H scope (compEnvC scope cl C X.env) fp) tg g (own.map (·.2))) (ht : ∀ (s : Shared) (H : Hp) (C : Addr) (cl : List (Str × Addr)) (fp : List Addr), QTs (X.blk s H scope (compEnvC scope cl C X.env) fp) W0 ifs t)
    (he : ∀ (s : Shared) (H : Hp) (C : Addr) (cl : List (Str × Addr)) (fp : List Addr), QE (X.blk s H scope (compEnvC scope cl C X.env) fp) W0 elt se) (hs : ∀ x, foldedSetIterable iter X.env x = pure x := by intro _; rfl) :
    QE X W (.ListComp elt [⟨tg, iter, ifs, 0⟩] scope pos) (sLc si g t se (own.map (·.2))) :=
  ⟨pe_imp (pe_lc hc hN hi.pi ok (fun s H C cl fp => (hg s H C cl fp).pg) (fun s H C cl fp => (ht s H C cl fp).pt) (fun s H C cl fp => (he s H C cl fp).pe) hs) fun σ H Q h => lc_at h⟩
theorem x_setLc (i : Nat) {y : Str} {py spos : Pos} (hc : X.calm = true) (hN : X.N.Nodup) (hy : X.N[i]? = some y) (hyl : X.env.scope.names.lookup y = some .local)
    (hsw : swapsWith (.ListComp elt [⟨tg, iter, ifs, 0⟩] scope pos) (some (.Name y py)) spos.line X.env = pure true) (hi : QI X W tg iter si) (ok : BlkOk X.N X.env.scope scope own)
    (hg : ∀ (s : Shared) (H : Hp) (C : Addr) (cl : List (Str × Addr)) (fp : List Addr), QN (X.blk s H scope (compEnvC scope cl C X.env) fp) tg g (own.map (·.2))) (ht : ∀ (s : Shared) (H : Hp) (C : Addr) (cl : List (Str × Addr)) (fp : List Addr), QTs (X.blk s H scope (compEnvC scope cl C X.env) fp) W0 ifs t)
    (he : ∀ (s : Shared) (H : Hp) (C : Addr) (cl : List (Str × Addr)) (fp : List Addr), QE (X.blk s H scope (compEnvC scope cl C X.env) fp) W0 elt se) (hs : ∀ x, foldedSetIterable iter X.env x = pure x := by intro _; rfl) :
    QS X W (.Assign [.Name y py] (.ListComp elt [⟨tg, iter, ifs, 0⟩] scope pos) spos) (xSet i (sLc si g t se (own.map (·.2)))) :=
  ⟨ps_imp (ps_setLc hc hN hy hyl hsw hi.pi ok (fun s H C cl fp => (hg s H C cl fp).pg) (fun s H C cl fp => (ht s H C cl fp).pt) (fun s H C cl fp => (he s H C cl fp).pe) hs) fun D σ H ⟨φ, l, m, h1, h2, h3⟩ =>
    lc_at ⟨φ, l, m, h1, h2, (PostS.then (rel := rV X.K) h2 h3).mono fun v H1 ⟨φ1, x, m1, e1, a1, b1, c1, d1⟩ => d1 φ1 _ H1 Ext.refl a1 (b1.set i c1)⟩⟩
end
end SM
set_option Elab.async false
set_option linter.all false
set_option maxRecDepth 100000
set_option maxHeartbeats 1000000
namespace SM
open PySem PySem.Spec PyProof.Rows L2
def strs? : List PV → Option (List (List Nat))
  | [] => some []
  | .str s :: r => (strs? r).map (s :: ·)
  | _ :: _ => none
theorem strs_rvs {K : PySem.W.Frag} {H : Hp} {φ : List Addr} : ∀ {xs : List PV} {ys : List (List Nat)} {vs : List V}, strs? xs = some ys → RVs K H φ xs vs → vs = (ys.map fun y => (⟨y.toArray⟩ : Str)).map V.str
  | [], ys, vs, e, r => by cases e; cases r; rfl
  | x :: xs, ys, vs, e, r => by
    obtain ⟨v, us, rfl, r1, r2⟩ := r
    cases x with
    | str s =>
      unfold strs? at e
      cases h : strs? xs with
      | none => rw [h] at e; cases e
      | some zs =>
        rw [h] at e
        cases e
        cases r1
        rw [strs_rvs h r2]
        rfl
    | _ => cases e
section
variable {Q : PV → MH → Prop} {E : EX} {l : SM.Loc} {m : MH} {D : ED} {a b c : SE} {s t : SS} {ta tb : SB} {as : SA}
theorem lt_ii {a b : Int} : ltv (.int a) (.int b) m = some (.bl (decide (a < b)), m) := by with_unfolding_all rfl
theorem le_ii {a b : Int} : lev (.int a) (.int b) m = some (.bl (decide (a ≤ b)), m) := by with_unfolding_all rfl
theorem gt_ii {a b : Int} : gtv (.int a) (.int b) m = some (.bl (decide (b < a)), m) := by with_unfolding_all rfl
theorem ge_ii {a b : Int} : gev (.int a) (.int b) m = some (.bl (decide (b ≤ a)), m) := by with_unfolding_all rfl
theorem lt1 {a b : Nat} : ([b] < [a]) ↔ b < a := by rw [List.cons_lt_cons_iff]; simp
theorem le_cc {a b : Nat} : lev (.str [a]) (.str [b]) m = some (.bl (decide (a ≤ b)), m) := by
  show some (PV.bl (!decide ([b] < [a])), m) = _
  congr 3
  by_cases h : a ≤ b
  · rw [decide_eq_true h, decide_eq_false (by rw [lt1]; omega)]; rfl
  · rw [decide_eq_false h, decide_eq_true (by rw [lt1]; omega)]; rfl
theorem muls_ii {a b : Int} : mulvS (.int a) (.int b) m = mulv (.int a) (.int b) m := by with_unfolding_all rfl
theorem muls_si {c : List Nat} {n : Int} : mulvS (.str c) (.int n) m = if 0 ≤ n ∧ n ≤ 1000 ∧ c.length ≤ 1000 then some (.str (List.replicate n.toNat c).flatten, m) else none := by with_unfolding_all rfl
theorem ins_cs {c : Nat} {s : List Nat} : inS (.str [c]) (.str s) m = some (.bl (decide (c ∈ s)), m) := by with_unfolding_all rfl
theorem iadd_ii {a b : Int} : iaddv (.int a) (.int b) m = some (.int (a + b), m) := by with_unfolding_all rfl
theorem isub_ii {a b : Int} : isubv (.int a) (.int b) m = some (.int (a - b), m) := by with_unfolding_all rfl
theorem w_onone {Q : Option Int → MH → Prop} : WP (oNone l m) Q E = Q none m := by with_unfolding_all rfl
theorem w_osome {Q : Option Int → MH → Prop} : WP (oSome a l m) Q E = WP (a l m) (fun x m1 => match x with | .int i => Q (some i) m1 | _ => False) E := by
  unfold oSome; rw [wp_bind]; refine wp_eq fun x m1 => ?_; cases x <;> with_unfolding_all rfl
theorem w_sl {lo hi : SO} : WP (sSl a lo hi l m) Q E = WP (a l m) (fun x m1 => WP (lo l m1) (fun i m2 => WP (hi l m2) (fun j m3 => WP (lift (slv x i j m3)) Q E) E) E) E := by
  unfold sSl; rw [wp_bind]; refine wp_eq fun x m1 => ?_; rw [wp_bind]; refine wp_eq fun i m2 => ?_; rw [wp_bind]
theorem sl_s {s : List Nat} {i j : Option Int} : slv (.str s) i j m = if s.length ≤ 16777216 then some (.str (cut s i j), m) else none := by with_unfolding_all rfl
theorem sl_t {s : List PV} {i j : Option Int} : slv (.tup s) i j m = some (.tup (cut s i j), m) := by with_unfolding_all rfl
theorem s_aug {i : Nat} {op : PV → PV → MH → OR} : WS (xAug i op a l m) D = WP (sVar i l m) (fun x m1 => WP (a l m1) (fun y m2 => WP (lift (op x y m2)) (fun z m3 => D.nx (l.set i (some z)) m3) (fun c fs m => D.ex c fs l m)) (fun c fs m => D.ex c fs l m)) (fun c fs m => D.ex c fs l m) := by
  unfold xAug
  rw [ws_then]; refine wp_eq fun x m1 => ?_; rw [ws_then]; refine wp_eq fun y m2 => ?_; rw [ws_then]; refine wp_eq fun z m3 => ?_; rw [ws_nx]
/-- while: an invariant with what is left -/
theorem ws_while (I : Nat → SM.Loc → MH → Prop)
    (hs : ∀ k l m, I k l m → WP (ta l m) (fun b m1 => if b = true then 0 < k ∧ WS (s l m1) ⟨I (k - 1), D.rt, D.nx, I (k - 1), D.ex⟩ else D.nx l m1) (fun c fs m => D.ex c fs l m)) :
    ∀ (n k : Nat) (l : SM.Loc) (m : MH), k < n → I k l m → WS (whileL ta s n l m) D
  | 0, k, l, m, hk, h => absurd hk (Nat.not_lt_zero _)
  | n + 1, k, l, m, hk, h => by
    unfold whileL
    rw [ws_then]
    refine (hs k l m h).mono fun b m1 q => ?_
    by_cases hb : b = true
    · rw [if_pos hb] at q ⊢
      obtain ⟨q0, q⟩ := q
      cases hr : s l m1 with
      | nx l2 m2 => rw [hr, ws_nx] at q; exact ws_while I hs n (k - 1) l2 m2 (by omega) q
      | ct l2 m2 => rw [hr, ws_ct] at q; exact ws_while I hs n (k - 1) l2 m2 (by omega) q
      | bk l2 m2 => rw [hr, ws_bk] at q; dsimp only; rw [ws_nx]; exact q
      | rt x m2 => rw [hr, ws_rt] at q; dsimp only; rw [ws_rt]; exact q
      | ex c fs l2 m2 => rw [hr] at q; dsimp only; unfold WS at q ⊢; exact q
      | bad => rw [hr, ws_bad] at q; exact q.elim
    · rw [if_neg hb] at q ⊢
      rw [ws_nx]
      exact q
theorem s_while (n : Nat) (hn : n < 1000000) (I : Nat → SM.Loc → MH → Prop) (h0 : I n l m)
    (hs : ∀ k l m, I k l m → WP (ta l m) (fun b m1 => if b = true then 0 < k ∧ WS (s l m1) ⟨I (k - 1), D.rt, D.nx, I (k - 1), D.ex⟩ else D.nx l m1) (fun c fs m => D.ex c fs l m)) : WS (xWhile ta s l m) D := by
  unfold xWhile
  exact ws_while I hs _ n l m (by rw [wfuel_eq]; exact hn) h0
end
end SM
set_option Elab.async false
set_option linter.all false
set_option maxRecDepth 100000
set_option maxHeartbeats 1000000
namespace SM
open PySem PySem.Spec PyProof.Rows L2
def dec (i : Int) : List Nat := ((toString i : String) : Str).cps.toList
def strv : List PV → MH → OR
  | [.int i], m => if i.natAbs.log2 < 1920 then some (.str (dec i), m) else none
  | [.str s], m => some (.str s, m)
  | _, _ => none
def tuplev : List PV → MH → OR
  | [.tup xs], m => some (.tup xs, m)
  | [.ref n], m => (seq? m n).map fun xs => (.tup xs, m)
  | _, _ => none
def listv : List PV → MH → OR
  | [.tup xs], m => some (.ref m.length, m ++ [.lst xs])
  | [.ref n], m => (seq? m n).map fun xs => (.ref m.length, m ++ [.lst xs])
  | _, _ => none
section
variable {X : Cx}
theorem c_tuple : CrQ X (.type "tuple") tuplev := .of fun vs H Q φ m xs h1 h2 h4 => by
  unfold tuplev at h4
  split at h4
  · obtain ⟨v, rfl, r⟩ := h2.one
    obtain ⟨a, ws, rfl, q1, q2⟩ := r
    exact ⟨_, call_tuple_of, a, ws, rfl, .inr ⟨q1, h4.same h1 ⟨a, ws, rfl, q1, q2⟩⟩⟩
  · obtain ⟨v, rfl, r⟩ := h2.one
    rename_i n
    cases hq : seq? m n with
    | none => rw [hq] at h4; exact h4.not.elim
    | some xs =>
      rw [hq] at h4
      obtain ⟨a, ws, rfl, q1, q2⟩ := h1.seq r hq
      exact ⟨_, call_tuple_of, a, ws, rfl, .inl ⟨q1, h4.newT h1 q2⟩⟩
  · exact h4.not.elim
theorem c_list : CrQ X (.type "list") listv := .of fun vs H Q φ m xs h1 h2 h4 => by
  unfold listv at h4
  split at h4
  · obtain ⟨v, rfl, r⟩ := h2.one
    obtain ⟨a, ws, rfl, q1, q2⟩ := r
    exact ⟨_, call_list_of, a, ws, rfl, .inr q1, h4.newL h1 q2⟩
  · obtain ⟨v, rfl, r⟩ := h2.one
    rename_i n
    cases hq : seq? m n with
    | none => rw [hq] at h4; exact h4.not.elim
    | some xs =>
      rw [hq] at h4
      obtain ⟨a, ws, rfl, q1, q2⟩ := h1.seq r hq
      exact ⟨_, call_list_of, a, ws, rfl, .inl q1, h4.newL h1 q2⟩
  · exact h4.not.elim
end
section
variable {m : MH}
theorem str_s {s : List Nat} : strv [.str s] m = some (.str s, m) := by with_unfolding_all rfl
theorem tuple_t {xs : List PV} : tuplev [.tup xs] m = some (.tup xs, m) := by with_unfolding_all rfl
theorem tuple_r {n : Nat} {xs : List PV} (h : seq? m n = some xs) : tuplev [.ref n] m = some (.tup xs, m) := by
  show (seq? m n).map _ = _; rw [h]; with_unfolding_all rfl
theorem list_t {xs : List PV} : listv [.tup xs] m = some (.ref m.length, m ++ [.lst xs]) := by with_unfolding_all rfl
theorem list_r {n : Nat} {xs : List PV} (h : seq? m n = some xs) : listv [.ref n] m = some (.ref m.length, m ++ [.lst xs]) := by
  show (seq? m n).map _ = _; rw [h]; with_unfolding_all rfl
end
end SM
set_option Elab.async false
set_option linter.all false
set_option maxRecDepth 100000
set_option maxHeartbeats 1000000
namespace SM
open PySem PySem.Spec PyProof.Rows L2
theorem allO_map {α β : Type} {f : α → Option β} {g : α → β} : ∀ {xs : List α}, (∀ x ∈ xs, f x = some (g x)) → allO (xs.map f) = some (xs.map g)
  | [], _ => rfl
  | x :: xs, h => by
    rw [List.map_cons, h x List.mem_cons_self]
    show (allO (xs.map f)).map _ = _
    rw [allO_map fun y hy => h y (List.mem_cons_of_mem _ hy)]
    rfl
theorem lay_all {α : Type} {g : α → PyData} : ∀ xs : List α, (∀ x ∈ xs, PyData.canLay0 (g x) = true) → PyData.canLayAll0 (xs.map g) = true
  | [], _ => rfl
  | x :: xs, h => by simp [PyData.canLayAll0, h x List.mem_cons_self, lay_all xs fun y hy => h y (List.mem_cons_of_mem _ hy)]
theorem dep_all {α : Type} {g : α → PyData} {n : Nat} (h : ∀ x, PyData.depth (g x) ≤ n) : ∀ xs : List α, PyData.depthAll (xs.map g) ≤ n
  | [] => by simp [PyData.depthAll]
  | x :: xs => by have := h x; have := dep_all h xs; simp [PyData.depthAll]; omega
theorem shp {d : PyData} (h : PyData.canLay0 d = true) (h2 : PyData.depth d ≤ 64) : SeqAt.shaped d = true := by
  unfold SeqAt.shaped; rw [h, decide_eq_true h2]; rfl
theorem arr_inj {a b : List Nat} : ((⟨a.toArray⟩ : Str) == ⟨b.toArray⟩) = decide (a = b) := by
  by_cases h : a = b
  · subst h; simp
  · rw [decide_eq_false h]
    rw [beq_eq_false_iff_ne]
    intro e
    injection e with e
    exact h (by simpa using e)
theorem any_mem {α : Type} {f : α → Bool} {xs : List α} {p : Prop} [Decidable p] (h : (∃ x ∈ xs, f x = true) ↔ p) : xs.any f = decide p := by
  by_cases hp : p
  · rw [decide_eq_true hp, List.any_eq_true]; exact h.mpr hp
  · rw [decide_eq_false hp, List.any_eq_false]; exact fun x hx e => hp (h.mp ⟨x, hx, e⟩)
theorem inD_gen {α : Type} {m : MH} {r : Nat} {xs : List PV} {x : PV} {d : PyData} {us : List α} {g : α → PyData} (hs : seq? m r = some xs) (hx : toD m 8 x = some d) (hl : allO (xs.map (toD m 7)) = some (us.map g))
    (s1 : SeqAt.shaped d = true) (s2 : ∀ u ∈ us, PyData.canLay0 (g u) = true) (s3 : ∀ u, PyData.depth (g u) ≤ 8) {p : Prop} [Decidable p] (hp : (∃ u ∈ us, PyData.eqv (g u) d = true) ↔ p) : inD m x (.ref r) = some (decide p) := by
  have e : toD m 8 (.ref r) = some (.list (us.map g)) := by
    show (match seq? m r with | some xs => (allO (xs.map (toD m 7))).map PyData.list | none => none) = _
    rw [hs]
    dsimp only
    rw [hl]
    rfl
  have s4 : SeqAt.shaped (.list (us.map g)) = true := shp (by simp [PyData.canLay0, lay_all us s2]) (by have := dep_all (n := 8) s3 us; simp [PyData.depth]; omega)
  unfold inD
  rw [hx]
  dsimp only
  rw [e]
  dsimp only
  rw [if_pos ⟨s1, s4⟩, List.any_map]
  exact congrArg some (any_mem hp)
def Cps (t : List Nat) : Prop := ∀ c ∈ t, c < 1114112
theorem strOk_of {t : List Nat} (h : Cps t) : PyData.strOk ⟨t.toArray⟩ = true := by
  unfold PyData.strOk
  show t.toArray.all _ = true
  rw [Array.all_eq_true']
  intro x hx
  exact decide_eq_true (h x (by simpa using hx))
theorem inD_int {m : MH} {r : Nat} {ss : List Int} {t : Int} (hs : seq? m r = some (ss.map .int)) : inD m (.int t) (.ref r) = some (decide (t ∈ ss)) := by
  refine inD_gen (us := ss) (g := fun s => .int s) hs rfl ?_ (shp (by simp [PyData.canLay0]) (by simp [PyData.depth])) (fun _ _ => by simp [PyData.canLay0]) (fun _ => by simp [PyData.depth]) ?_
  · rw [List.map_map]; exact allO_map fun x _ => rfl
  · constructor
    · rintro ⟨u, h1, h2⟩
      have h2 : u = t := by simpa [PyData.eqv] using h2
      exact h2 ▸ h1
    · intro h
      exact ⟨t, h, by simp [PyData.eqv]⟩
theorem ins_r {m : MH} {r : Nat} {x : PV} {b : Bool} (h : inD m x (.ref r) = some b) : inS x (.ref r) m = some (.bl b, m) := by
  have e : inS x (.ref r) m = inv x (.ref r) m := by
    unfold inS
    split
    · rename_i h2; cases h2
    · rfl
  rw [e]; unfold inv; rw [h]; rfl
section
variable {it : ITM} {g : STg} {t : SB} {e : SE} {d : Nat} {l0 l : SM.Loc} {Q : PV → MH → Prop} {E : EX} {m m1 : MH} {si : SI} {vs : List Nat}
theorem wp_comp (I : Nat → List PV → MH → Prop)
    (hs : ∀ i x acc m, it.items[i]? = some x → m[d]? = some (.lst acc) → I i acc m → it.ok m ∧ WG (g x l0 m) (fun l1 m1 => WP (t l1 m1) (fun b m2 => if b = true then WP (e l1 m2) (fun y m3 => m3[d]? = some (.lst acc) ∧ acc.length < 16777216 ∧ I (i + 1) (acc ++ [y]) (m3.set d (.lst (acc ++ [y])))) NoE else m2[d]? = some (.lst acc) ∧ I (i + 1) acc m2) NoE))
    (hd : ∀ acc m, m[d]? = some (.lst acc) → I it.items.length acc m → it.ok m ∧ Q (.ref d) m) : ∀ (k i : Nat) (acc : List PV) (m : MH), k + i = it.items.length → m[d]? = some (.lst acc) → I i acc m → WP (compL it g t e d l0 (it.items.drop i) m) Q E
  | 0, i, acc, m, ek, hl, h => by
    have e' : i = it.items.length := by omega
    subst e'
    rw [List.drop_of_length_le (Nat.le_refl _)]
    obtain ⟨h1, h2⟩ := hd acc m hl h
    unfold compL
    rw [if_pos h1, wp_ok]
    exact h2
  | k + 1, i, acc, m, ek, hl, h => by
    have hi : i < it.items.length := by omega
    rw [List.drop_eq_getElem_cons hi]
    obtain ⟨h1, h2⟩ := hs i _ acc m (List.getElem?_eq_getElem hi) hl h
    unfold compL
    rw [if_pos h1]
    cases hg : g it.items[i] l0 m with
    | none => rw [hg] at h2; unfold WG at h2; exact h2.elim
    | some p =>
      obtain ⟨l1, m1⟩ := p
      rw [hg] at h2
      unfold WG at h2
      dsimp only at h2 ⊢
      obtain ⟨b, m2, et, h3⟩ := h2.run
      rw [et]
      dsimp only
      cases b with
      | false =>
        rw [if_neg (by decide)]
        rw [if_neg (by decide)] at h3
        exact wp_comp I hs hd k (i + 1) acc m2 (by omega) h3.1 h3.2
      | true =>
        rw [if_pos rfl]
        rw [if_pos rfl] at h3
        obtain ⟨y, m3, ee, h4, h5, h6⟩ := h3.run
        rw [ee]
        dsimp only
        rw [show lst? m3 d = some acc by unfold lst?; rw [h4]]
        dsimp only
        rw [if_pos h5]
        exact wp_comp I hs hd k (i + 1) (acc ++ [y]) _ (by omega) (List.getElem?_set_self (List.getElem?_eq_some_iff.mp h4).1) h6
/-- a comprehension -/
theorem w_lc {it : ITM} (hsi : si l m = .ok it m1) (I : Nat → List PV → MH → Prop) (h0 : I 0 [] (m1 ++ [.lst []]))
    (hs : ∀ i x acc m, it.items[i]? = some x → m[m1.length]? = some (.lst acc) → I i acc m → it.ok m ∧ WG (g x (wipeP l vs) m) (fun l1 m' => WP (t l1 m') (fun b m2 => if b = true then WP (e l1 m2) (fun y m3 => m3[m1.length]? = some (.lst acc) ∧ acc.length < 16777216 ∧ I (i + 1) (acc ++ [y]) (m3.set m1.length (.lst (acc ++ [y])))) NoE else m2[m1.length]? = some (.lst acc) ∧ I (i + 1) acc m2) NoE))
    (hd : ∀ acc m, m[m1.length]? = some (.lst acc) → I it.items.length acc m → it.ok m ∧ Q (.ref m1.length) m) : WP (sLc si g t e vs l m) Q E := by
  unfold sLc
  rw [hsi]
  show WP (compL it g t e m1.length (wipeP l vs) it.items (m1 ++ [.lst []])) Q E
  have := wp_comp (E := E) I hs hd it.items.length 0 [] _ (by omega) (by simp) h0
  rw [List.drop_zero] at this
  exact this
theorem w_yes {Q : Bool → MH → Prop} : WP (tYesS l m) Q E = Q true m := by with_unfolding_all rfl
theorem si_seqL {e : SE} {n : Nat} {xs : List PV} (h : e l m = .ok (.ref n) m1) (hq : seq? m1 n = some xs) : iSeq e l m = .ok ⟨xs, some n⟩ m1 := by
  unfold iSeq; rw [h]; show (match seq? m1 n with | some xs => _ | none => _) = _; rw [hq]
theorem si_seqT {e : SE} {xs : List PV} (h : e l m = .ok (.tup xs) m1) : iSeq e l m = .ok ⟨xs, none⟩ m1 := by
  unfold iSeq; rw [h]; with_unfolding_all rfl
theorem si_rng0 {b : SE} {j : Int} (n : Nat) (hn : n = j.toNat) (h : b l m = .ok (.int j) m1) (hj : j < 4611686018427387904) (hj0 : -4611686018427387904 ≤ j) : iRng1S b l m = .ok ⟨(List.range n).map fun i => .int (i : Nat), none⟩ m1 := by
  rw [si_rng1 h ⟨hj0, hj⟩]
  have : rng 0 j = (List.range n).map fun i => PV.int (i : Nat) := by
    apply List.ext_getElem?
    intro i
    by_cases hi : i < n
    · rw [rng_get (by omega)]; simp [hi]
    · rw [List.getElem?_eq_none (by rw [rng_len]; omega), List.getElem?_eq_none (by simp; omega)]
  rw [this]
end
section
variable {l : SM.Loc} {m : MH} {D : ED} {b : SE} {g : STg} {body : SS}
/-- for x in range(b), where b has effects -/
theorem s_for1W (h : WP (b l m) (fun x m1 => ∃ j : Int, x = .int j ∧ -4611686018427387904 ≤ j ∧ j < 4611686018427387904 ∧ ∃ I : Nat → SM.Loc → MH → Prop, I 0 l m1 ∧
    (∀ i l m, i < j.toNat → I i l m → WG (g (.int (i : Nat)) l m) (fun l1 m1 => WS (body l1 m1) ⟨I (i + 1), D.rt, D.nx, I (i + 1), D.ex⟩)) ∧ (∀ l m, I j.toNat l m → D.nx l m)) NoE) : WS (xFor (iRng1S b) g body l m) D := by
  obtain ⟨x, m1, e, j, rfl, h1, h2, I, h3, h4, h5⟩ := h.run
  exact s_for1 j.toNat rfl e h2 h1 I h3 h4 h5
/-- for x in a list that stays as it is -/
theorem s_forLW (h : WP (b l m) (fun x m1 => ∃ n xs, x = .ref n ∧ seq? m1 n = some xs ∧ ∃ I : Nat → SM.Loc → MH → Prop, I 0 l m1 ∧ (∀ i l m, I i l m → seq? m n = some xs) ∧
    (∀ i x l m, xs[i]? = some x → I i l m → WG (g x l m) (fun l1 m1 => WS (body l1 m1) ⟨I (i + 1), D.rt, D.nx, I (i + 1), D.ex⟩)) ∧ (∀ l m, I xs.length l m → D.nx l m)) NoE) : WS (xFor (iSeq b) g body l m) D := by
  obtain ⟨x, m1, e, n, xs, rfl, h1, I, h3, h4, h5, h6⟩ := h.run
  exact s_forL e h1 I h3 h4 h5 h6
/-- a comprehension over a list that stays as it is -/
theorem w_lcL {t : SB} {e : SE} {vs : List Nat} {Q : PV → MH → Prop} {E : EX} (h : WP (b l m) (fun x m1 => ∃ n xs, x = .ref n ∧ seq? m1 n = some xs ∧ ∃ I : Nat → List PV → MH → Prop, I 0 [] (m1 ++ [.lst []]) ∧
    (∀ i x acc m, xs[i]? = some x → m[m1.length]? = some (.lst acc) → I i acc m → seq? m n = some xs ∧ WG (g x (wipeP l vs) m) (fun l1 m' => WP (t l1 m') (fun b m2 => if b = true then WP (e l1 m2) (fun y m3 => m3[m1.length]? = some (.lst acc) ∧ acc.length < 16777216 ∧ I (i + 1) (acc ++ [y]) (m3.set m1.length (.lst (acc ++ [y])))) NoE else m2[m1.length]? = some (.lst acc) ∧ I (i + 1) acc m2) NoE)) ∧
    (∀ acc m, m[m1.length]? = some (.lst acc) → I xs.length acc m → seq? m n = some xs ∧ Q (.ref m1.length) m)) NoE) : WP (sLc (iSeq b) g t e vs l m) Q E := by
  obtain ⟨x, m1, ee, n, xs, rfl, h1, I, h3, h4, h5⟩ := h.run
  exact w_lc (si_seqL ee h1) I h3 h4 h5
/-- a comprehension over a range -/
theorem w_lcR {t : SB} {e : SE} {vs : List Nat} {Q : PV → MH → Prop} {E : EX} (h : WP (b l m) (fun x m1 => ∃ j : Int, x = .int j ∧ -4611686018427387904 ≤ j ∧ j < 4611686018427387904 ∧ ∃ I : Nat → List PV → MH → Prop, I 0 [] (m1 ++ [.lst []]) ∧
    (∀ i acc m, i < j.toNat → m[m1.length]? = some (.lst acc) → I i acc m → WG (g (.int (i : Nat)) (wipeP l vs) m) (fun l1 m' => WP (t l1 m') (fun b m2 => if b = true then WP (e l1 m2) (fun y m3 => m3[m1.length]? = some (.lst acc) ∧ acc.length < 16777216 ∧ I (i + 1) (acc ++ [y]) (m3.set m1.length (.lst (acc ++ [y])))) NoE else m2[m1.length]? = some (.lst acc) ∧ I (i + 1) acc m2) NoE)) ∧
    (∀ acc m, m[m1.length]? = some (.lst acc) → I j.toNat acc m → Q (.ref m1.length) m)) NoE) : WP (sLc (iRng1S b) g t e vs l m) Q E := by
  obtain ⟨x, m1, ee, j, rfl, h1, h2, I, h3, h4, h5⟩ := h.run
  refine w_lc (si_rng0 j.toNat rfl ee h2 h1) I h3 (fun i x acc m hx hl hi => ⟨trivial, ?_⟩) (fun acc m hl hi => ⟨trivial, h5 acc m hl ?_⟩)
  · have hx : ((List.range j.toNat).map fun i => PV.int (i : Nat))[i]? = some x := hx
    rw [List.getElem?_map] at hx
    by_cases hz : i < j.toNat
    · rw [List.getElem?_range hz] at hx
      cases hx
      exact h4 i acc m hz hl hi
    · rw [List.getElem?_eq_none (by simp; omega)] at hx; cases hx
  · have hi : I ((List.range j.toNat).map fun i => PV.int (i : Nat)).length acc m := hi
    rw [List.length_map, List.length_range] at hi
    exact hi
theorem get_set_eq {m : MH} {n : Nat} {o u : MO} (h : m[n]? = some u) : (m.set n o)[n]? = some o := List.getElem?_set_self (List.getElem?_eq_some_iff.mp h).1
theorem append_r {m : MH} {n : Nat} {xs : List PV} {v : PV} (h : m[n]? = some (.lst xs)) (hl : xs.length < 16777216) : appendv (.ref n) [v] m = some (.non, m.set n (.lst (xs ++ [v]))) := by
  unfold appendv
  dsimp only
  rw [show lst? m n = some xs by unfold lst?; rw [h]]
  dsimp only
  rw [if_pos hl]
theorem isLst_r {m : MH} {n : Nat} {xs : List PV} (h : m[n]? = some (.lst xs)) : isLst m (.ref n) = true := by
  show (seq? m n).isSome = true
  unfold seq?
  rw [h]
  rfl
end
theorem at0 {α : Type} {x : α} {xs : List α} : atI (x :: xs) 0 = some x := by unfold atI ixN; rw [if_pos (by decide), if_pos (by simp)]; rfl
theorem at1 {α : Type} {x y : α} {xs : List α} : atI (x :: y :: xs) 1 = some y := by unfold atI ixN; rw [if_pos (by decide), if_pos (by simp; omega)]; rfl
theorem at2 {α : Type} {x y z : α} {xs : List α} : atI (x :: y :: z :: xs) 2 = some z := by unfold atI ixN; rw [if_pos (by decide), if_pos (by simp; omega)]; rfl
theorem at3 {α : Type} {x y z u : α} {xs : List α} : atI (x :: y :: z :: u :: xs) 3 = some u := by unfold atI ixN; rw [if_pos (by decide), if_pos (by simp; omega)]; rfl
theorem at4 {α : Type} {x y z u v : α} {xs : List α} : atI (x :: y :: z :: u :: v :: xs) 4 = some v := by unfold atI ixN; rw [if_pos (by decide), if_pos (by simp; omega)]; rfl
theorem at5 {α : Type} {x y z u v w : α} {xs : List α} : atI (x :: y :: z :: u :: v :: w :: xs) 5 = some w := by unfold atI ixN; rw [if_pos (by decide), if_pos (by simp; omega)]; rfl
theorem at6 {α : Type} {x y z u v w t : α} {xs : List α} : atI (x :: y :: z :: u :: v :: w :: t :: xs) 6 = some t := by unfold atI ixN; rw [if_pos (by decide), if_pos (by simp; omega)]; rfl
end SM
set_option Elab.async false
set_option linter.all false
set_option maxRecDepth 100000
set_option maxHeartbeats 1000000
namespace SM
open PySem PySem.Spec PyProof.Rows L2
def ints? : List PV → Option (List Int)
  | [] => some []
  | .int i :: r => (ints? r).map (i :: ·)
  | _ => none
theorem ints_map : ∀ ns : List Int, ints? (ns.map .int) = some ns
  | [] => rfl
  | n :: ns => by rw [List.map_cons]; unfold ints?; rw [ints_map ns]; rfl
section
variable {K : PySem.W.Frag} {H : Hp} {φ : List Addr}
theorem ints_rvs : ∀ {xs : List PV} {ns : List Int} {vs : List V}, ints? xs = some ns → RVs K H φ xs vs → vs = ns.map V.int
  | [], ns, vs, h, r => by cases h; cases r; rfl
  | .int i :: xs, ns, vs, h, r => by
    obtain ⟨v, ws, rfl, r1, r2⟩ := r
    unfold ints? at h
    cases hx : ints? xs with
    | none => rw [hx] at h; cases h
    | some ms =>
      rw [hx] at h
      cases h
      cases r1
      rw [ints_rvs hx r2]
      rfl
end
end SM
set_option Elab.async false
set_option linter.all false
set_option maxRecDepth 100000
set_option maxHeartbeats 1000000
namespace SM
open PySem PySem.Spec PyProof.Rows L2
def sTis (T : String) (sa : SE) : SE := fun l m => (sa l m).bind fun x m1 => if okTy m1 x = true then .ok (.bl (decide (tyName x = T))) m1 else .bad
theorem tyb_of {K : PySem.W.Frag} {H : Hp} {φ : List Addr} {m : MH} (h : RH K H φ m) : ∀ {x : PV} {v : V}, RV K H φ x v → okTy m x = true → TyB K H v (tyName x)
  | .non, _, r, _ => by cases r; exact .non
  | .bl _, _, r, _ => by cases r; exact .bl _
  | .int _, _, r, _ => by cases r; exact .int _
  | .str _, _, r, _ => by cases r; exact .str _
  | .tup xs, _, r, _ => by obtain ⟨a, vs, rfl, r1, r2⟩ := r; exact .tup r1
  | .ref n, _, r, e => by
    have e : (seq? m n).isSome = true := e
    cases hq : seq? m n with
    | none => rw [hq] at e; cases e
    | some xs =>
      obtain ⟨a, ws, rfl, q1, q2⟩ := h.seq r hq
      exact .lst q1
section
variable {X : Cx} {W : XM} {a : Expr} {sa : SE} {p pos pos2 : Pos} {T : String}
theorem q_tis {Tn : Str} {pT : Pos} (hg : Gl X "type") (hm : X.mg "type" = none) (hgT : Gl X Tn) (hmT : X.mg Tn = none) (hvT : bootBuiltins Tn = some (.type T)) (ha : QE X W a sa) (mk : behindInMarks .Is (.Name Tn pT) = false)
    (hn : Tn ≠ "__name__" := by decide) (hd : (Tn == ("__debug__" : Str)) = false := by decide) (na : starEach [a] X.env = (false, eval a X.env) :: starEach [] X.env := by rfl) :
    QE X W (.Compare (.Call (.Name "type" p) [a] [] pos) [.Is] [.Name Tn pT] pos2) (sTis T sa) :=
  ⟨pe_imp (pe_cmpR op_isTyB (pe_callTy call_type1 hg hm (by decide +kernel) (pa_cons ha.pe pa_nil na) (he := na)) (pe_bltn (v := .ty T) hgT hmT hvT rfl hn hd) mk) fun σ H Q h => (one h).mono fun v H1 ⟨φ, m, x, _, c1, c2, c4⟩ => by
    by_cases hk : okTy m x = true
    · rw [if_pos hk] at c4
      exact ⟨v, _, rfl, tyb_of c1 c2 hk, _, _, rfl, rfl, c4 φ H1 _ Ext.refl c1 rfl⟩
    · rw [if_neg hk] at c4
      exact c4.elim⟩
end
theorem RH.newX {K : PySem.W.Frag} {H : Hp} {φ : List Addr} {m : MH} {p : Addr} {u : HO} (h : RH K H φ m) (n : H p = none) : Ext K φ H φ (upd H p u) ∧ RH K (upd H p u) φ m := by
  have e : Ext K φ H φ (upd H p u) := ⟨⟨[], by simp⟩, fun a ws w => sqt_upd_new n w, fun _ _ _ w => by rw [upd_ne (ne_of_none w n)]; exact w, fun _ _ w => by rw [upd_ne (ne_of_none w n)]; exact w, fun _ _ w => by rw [upd_ne (ne_of_none w n)]; exact w⟩
  exact ⟨e, ⟨h.len, h.nd, fun i a o h1 h2 => (h.obj i a o h1 h2).new n e⟩⟩
/-- what is wanted of an exception, by what the def's own way out wants -/
def WEx (K : PySem.W.Frag) (C : Addr) (cn : String) (fn : Str) (E : XK) : XM := fun c fs φ _ m _ H => ∃ y, c = cn ∧ fs = [y] ∧ ∀ φ' H' d v, Ext K φ H φ' H' → RH K H' φ' m → RV K H' φ' y v → H' d = some (.xd [(fn, v)]) → E (.ref C) (some d) H'
/-- .. by what a try's body wants -/
def WTx (K : PySem.W.Frag) (C : Addr) (cn : String) (fn : Str) (Wx : WX) : XM := fun c fs φ l m σ H => ∃ y, c = cn ∧ fs = [y] ∧ ∀ φ' H' d v, Ext K φ H φ' H' → RH K H' φ' m → RL K H' φ' l σ → RV K H' φ' y v → H' d = some (.xd [(fn, v)]) → Wx (.ref C) (some d) σ H'
def PostX (K : PySem.W.Frag) (C : Addr) (cn : String) (fn : Str) (φ : List Addr) (H : Hp) (r : R PV) (Q : VK) (E : XK) : Prop := match r with
  | .ok x m => ∀ φ' H' v, Ext K φ H φ' H' → RH K H' φ' m → RV K H' φ' x v → Q v H'
  | .ex c fs m => ∀ φ' H', Ext K φ H φ' H' → RH K H' φ' m → WEx K C cn fn E c fs φ' [] m [] H'
  | .bad => False
def SpX (K : PySem.W.Frag) (C : Addr) (cn : String) (fn : Str) (n : Nat) (f : FS) : Sp := fun vs H Q E => vs.length = n ∧ ∃ φ m xs, RH K H φ m ∧ RVs K H φ xs vs ∧ PostX K C cn fn φ H (f xs m) Q E
/-- the promise of __init__: self.f = f -/
def SpI (K : PySem.W.Frag) (C : Addr) (fn : Str) : Sp := fun vs H Q _ => ∃ a y, vs = [.ref a, y] ∧ H a = some (exo a C none) ∧ ∀ dx, H dx = none → dx ≠ a → Q .non (upd (upd H dx (exd dx [(fn, y)])) a (exo a C (some dx)))
theorem exm_own {K : PySem.W.Frag} {S : Addr} (h1 : PySem.W.subIn K (.ref S) (.type "BaseException") = some true) (h2 : PySem.W.isClsIn K S = true) (h3 : PySem.W.typeIn K (.ref S) = some (.type "type")) (h4 : PySem.W.subIn K (.ref S) (.ref S) = some true) : PySem.W.exmOne K (.ref S) (.ref S) = some true := by
  have h2 : (PySem.W.clsIn K S).isSome = true := h2
  unfold PySem.W.exmOne
  rw [if_pos (by rw [h1]; rfl)]
  unfold PySem.W.kitCls
  simp [h2, h3, h4]
/-- what is known of an exception's class -/
structure ExcT (P : Program) (w : World) (K : PySem.W.Frag) (mg : Str → Option Value) (base : Heap) (x : Str) (C : Addr) (fn : Str) : Prop where
  gC : mg x = some (.ref C)
  T : OexC K C
  ini : ∃ (fI : Addr) (fd : FuncData), PySem.W.findIn K (.ref C) "__init__" = some (some (.ref fI)) ∧ PySem.W.typeIn K (.ref fI) = some (.type "function") ∧ FnOk P w K mg base CX0 1 fI fd ["self", fn] (SpI K C fn) ∧ Binds K fd ["self", fn] []
  no : PySem.W.findIn K (.ref C) fn = some none
  xf : XfC K C
  te : PySem.W.exmOne K (.ref C) (.ref C) = some true
section
variable {P : Program} {w : World} {K : PySem.W.Frag} {mg : Str → Option Value} {base : Heap}
theorem okI {x qual : Str} {st : Stmt} {f C : Addr} {fd : FuncData} {N : List Str} {fn : Str} (F : Fun K x qual st f fd) (S : FnScope N ["self", fn] (defScope st)) (hN : N = ([("self" : Str), fn] : List Str)) (T : OexC K C) (no : PySem.W.findIn K (.ref C) fn = some none)
    (hb : ∀ (cdv : Value) (A : Around) (outer : List Env) (s : Shared) (H : Hp) (E : XK), PSs (cxOf CX0 P w K mg base N qual (defScope st) f cdv A outer s H E).nox (defBody st) (tOst K fn (tVar 0) (tVar 1))) : FnOk P w K mg base CX0 1 f fd ["self", fn] (SpI K C fn) := by
  refine F.ok (k := 0) S (fun vs H Q E h => by obtain ⟨a, y, rfl, _⟩ := h; rfl) fun cdv A outer s H vs Q E hr hsp => ?_
  obtain ⟨a, y, rfl, ha, hq⟩ := hsp
  refine ⟨_, hb cdv A outer s H E, ?_⟩
  subst hN
  exact ⟨y, rfl, .ref a, rfl, a, C, rfl, T, no, .inl ⟨ha, fun dx n ne => hq dx n ne⟩⟩
theorem okXQ {x qual : Str} {st : Stmt} {f : Addr} {fd : FuncData} {N ps : List Str} {k : Nat} {C : Addr} {cn : String} {fn : Str} (F : Fun K x qual st f fd) (S : FnScope N ps (defScope st)) (b : SS)
    (h : ∀ (cdv : Value) (A : Around) (outer : List Env) (s : Shared) (H : Hp) (E : XK), Room k (A.deeper (envOfC qual (defScope st) s.heap.objs.size f cdv)) →
      QSs (cxOf (L2.CX P w) P w K mg base N qual (defScope st) f cdv A outer s H E) (WEx K C cn fn E) (defBody st) b) : FnOk P w K mg base (L2.CX P w) (k + 1) f fd ps (SpX K C cn fn ps.length (fnS ps.length N.length b)) := by
  refine F.okX S (fun vs H Q E h => h.1) fun cdv A outer s H vs Q E hr hsp => ?_
  obtain ⟨hl, φ, m, xs, h1, h2, h3⟩ := hsp
  have hle : ps.length ≤ N.length := by
    have := congrArg List.length S.pre
    rw [List.length_take] at this
    omega
  have hxl : xs.length = ps.length := by rw [← h2.length]; exact hl
  refine ⟨_, (h cdv A outer s H E hr).ps, φ, _, m, h1, rl_start hle h2 hxl, ?_⟩
  unfold fnS at h3
  rw [if_pos hxl] at h3
  cases hb : b (xs.map some ++ List.replicate (N.length - ps.length) none) m with
  | nx l m' => rw [hb] at h3; exact fun φ' σ' H' x a b => h3 φ' H' _ x a rfl
  | rt y m' => rw [hb] at h3; exact h3
  | bk l m' => rw [hb] at h3; exact h3.elim
  | ct l m' => rw [hb] at h3; exact h3.elim
  | ex c fs l m' => rw [hb] at h3; exact fun φ' σ' H' x a b => h3 φ' H' x a
  | bad => rw [hb] at h3; exact h3.elim
end
def CalX (P : Program) (w : World) (K : PySem.W.Frag) (mg : Str → Option Value) (base : Heap) (C : Addr) (cn : String) (fn : Str) (x : Str) (n k : Nat) (f : FS) : Prop :=
  ∃ (fa : Addr) (fd : FuncData) (ps : List Str), ps.length = n ∧ FnOk P w K mg base (L2.CX P w) k fa fd ps (SpX K C cn fn n f) ∧ mg x = some (.ref fa) ∧ PySem.W.keepIn K (.ref fa) = true ∧ Binds K fd ps []
theorem calX_mk {P : Program} {w : World} {K : PySem.W.Frag} {mg : Str → Option Value} {base : Heap} {C : Addr} {cn : String} {fn : Str} {x qual : Str} {st : Stmt} {f : Addr} {fd : FuncData} {ps : List Str} {k n : Nat} {g : FS} (hn : ps.length = n) (G : FnOk P w K mg base (L2.CX P w) k f fd ps (SpX K C cn fn n g)) (F : Fun K x qual st f fd) (hm : mg x = some (.ref f)) (hb : Binds K fd ps []) : CalX P w K mg base C cn fn x n k g :=
  ⟨f, fd, ps, hn, G, hm, F.kp, hb⟩
def xRaise (cn : String) (ses : SA) : SS := fun l m => R.then l (ses l m) fun xs m1 => .ex cn xs l m1
section
variable {X : Cx} {a : Expr} {es : List Expr} {ses : SA} {x fn : Str} {cn : String} {C : Addr} {E : XK} {p pos pos2 : Pos}
theorem x_raise (hc : X.calm = true) (T : ExcT X.prog X.w X.K X.mg X.base x C fn) (hr : Room 2 X.A) (tk : Takes X (fun cls d _ H => E cls d H)) (ha : QA X (WEx X.K C cn fn E) [a] ses) (hg : Gl X x := by rfl) (hdb : (x == ("__debug__" : Str)) = false := by decide)
    (he : starEach (a :: []) X.env = (false, eval a X.env) :: starEach [] X.env := by rfl) (hpl : (backTo pos (starEach [] X.env)).any (·.1) = false := by rfl) :
    QS X (WEx X.K C cn fn E) (.Raise (some (.Call (.Name x p) [a] [] pos)) none pos2) (xRaise cn ses) := by
  obtain ⟨fI, fd, iC, tI, F, hb⟩ := T.ini
  refine ⟨ps_imp (ps_raise hc tk (pmk_oex T.T iC tI F hr hb .nil pass0 hg T.gC ha.pa hdb he hpl)) fun D σ H ⟨φ, l, m, h1, h2, h3⟩ => ?_⟩
  refine ⟨φ, l, m, h1, h2, (PostS.then (rel := rA X.K) h2 h3).mono ?_⟩
  rintro vs H1 ⟨φ1, xs, m1, e1, a1, b1, c1, d1⟩
  obtain ⟨y, _, rfl, fin⟩ := d1 φ1 σ H1 Ext.refl a1 b1
  obtain ⟨v, ws, rfl, r1, rfl⟩ := c1
  refine ⟨by simp, fun q hq => ⟨q, v, rfl, upd_same, fun dx n ne => ?_⟩⟩
  have hdx : H1 dx = none := by rw [upd_ne ne] at n; exact n
  refine ⟨rfl, dx, [(fn, v)], upd_same, by rw [upd_ne ne, upd_same], hdx, ?_⟩
  have eH : upd (del (upd (upd (upd H1 q (exo q C none)) dx (exd dx [(fn, v)])) q (exo q C (some dx))) q) dx (.xd [(fn, v)]) = upd H1 dx (.xd [(fn, v)]) := by
    funext b
    by_cases hb1 : b = dx
    · subst hb1; rw [upd_same, upd_same]
    · rw [upd_ne hb1, upd_ne hb1]
      by_cases hb2 : b = q
      · subst hb2; rw [del_same, hq]
      · rw [del_ne hb2, upd_ne hb2, upd_ne hb1, upd_ne hb2]
  rw [eH]
  obtain ⟨x1, x2⟩ := a1.newX (u := .xd [(fn, v)]) hdx
  exact fin φ1 _ dx v x1 x2 (RV.ext x1 r1) upd_same
end
def sCallX (n : Nat) (f : FS) (a : SA) : SE := fun l m => (a l m).bind fun xs m1 => if xs.length = n then f xs m1 else .bad
section
variable {X : Cx} {e : Expr} {es : List Expr} {ses : SA} {x fn : Str} {cn : String} {C : Addr} {Wx : WX} {p pos : Pos} {n k j : Nat} {f : FS}
theorem q_callX (Cl : CalX X.prog X.w X.K X.mg X.base C cn fn x n k f) (hr : Room j X.A) (hk : k ≤ j) (hg : Gl X x) (tk : Takes X Wx) (ha : QA X (WTx X.K C cn fn Wx) (e :: es) ses) (hdb : (x == ("__debug__" : Str)) = false := by decide)
    (he : starEach (e :: es) X.env = (false, eval e X.env) :: starEach es X.env := by rfl) (hpl : (backTo pos (starEach es X.env)).any (·.1) = false := by rfl) : QE X (WTx X.K C cn fn Wx) (.Call (.Name x p) (e :: es) [] pos) (sCallX n f ses) := by
  obtain ⟨fa, fd, ps, hps, F, hm, hkp, hb⟩ := Cl
  refine ⟨pe_imp (pe_callS (E := fun σ => L2.WE Wx σ) F (hr.mono hk) hg hm hkp hb (fun σ => passAt tk σ) ha.pa hdb he hpl) fun σ H Q ⟨φ, l, m, h1, h2, h3⟩ => ?_⟩
  refine ⟨φ, l, m, h1, h2, (Post.bind (rel := rA X.K) h2 h3).mono ?_⟩
  rintro vs H1 ⟨φ1, xs, m1, e1, a1, b1, c1, d1⟩
  by_cases hz : xs.length = n
  · rw [if_pos hz] at d1
    refine ⟨by rw [RVs.length c1]; exact hz, φ1, m1, xs, a1, c1, ?_⟩
    cases hf : f xs m1 with
    | ok y m' => rw [hf] at d1; exact d1
    | ex c fs m' =>
      rw [hf] at d1
      intro φ2 H2 x2 a2
      obtain ⟨y, q1, q2, q3⟩ := d1 φ2 H2 x2 a2
      exact ⟨y, q1, q2, fun φ3 H3 d v x3 a3 r3 e3 => q3 φ3 H3 d v x3 a3 ((b1.ext x2).ext x3) r3 e3⟩
    | bad => rw [hf] at d1; exact d1.elim
  · rw [if_neg hz] at d1
    exact d1.elim
end
def xTryA (cn : String) (i : Nat) (sb : SS) : SS := fun l m => match sb l m with
  | .ex c [y] l' m' => if c = cn ∧ i < l'.length then .rt y m' else .bad
  | .ex _ _ _ _ => .bad
  | r => r
section
variable {X : Cx} {W : XM} {body : List Stmt} {sb : SS} {x n fn : Str} {cn : String} {C : Addr} {i : Nat} {np p1 p2 p3 pos pos' : Pos}
theorem x_tryA (i : Nat) (hs : X.stack = X.env :: X.outer) (hf : X.env.frame = some X.env.locals) (hN : X.N.Nodup) (hi : X.N[i]? = some n) (hln : X.env.kindOf n = some .local) (T : ExcT X.prog X.w X.K X.mg X.base x C fn) (hg : Gl X x)
    (hb : ∀ (Wx : WX) (pn : List (Addr × Obj)) (xe : Value → Shared → Prop), Takes (X.tr pn xe) Wx → PassesOwn (model X.prog X.w) X.A X.env xe → QSs (X.tr pn xe) (WTx X.K C cn fn Wx) body sb)
    (hv : Vis X.env.scope n) (hab : attributeBase (.Name n p1) fn X.env (eval (.Name n p1) X.env) = eval (.Name n p1) X.env) (hdb : (x == ("__debug__" : Str)) = false := by decide) (hdn : (n == ("__debug__" : Str)) = false := by decide) (hcd : (n == ("__classdict__" : Str)) = false := by decide) :
    QS X W (.Try body [.ExceptHandler (some (.Name x np)) (some n) [.Return (some (.Attribute (.Name n p1) fn p2)) p3] pos'] [] [] pos) (xTryA cn i sb) :=
  ⟨ps_imp (ps_try_as (tb := fun Wx => RdS X.K (WTx X.K C cn fn Wx) sb) hs hf hN hi hln ⟨hg, hdb, .inl T.gC⟩ (L2.takes0 (X := X)) (fun Wx pn xe tk po => (hb Wx pn xe tk po).ps)
    (fun a oe cls d pn hz hff => pss_one (ps_ret (pe_xf T.xf T.no hz hff (pe_var (i := i) hi hv hdn hcd) hab)))) fun D σ H ⟨φ, l, m, h1, h2, h3⟩ => by
    refine ⟨φ, l, m, h1, h2, ?_⟩
    unfold xTryA at h3
    cases hsb : sb l m with
    | nx l' m' => rw [hsb] at h3; exact h3
    | rt y m' => rw [hsb] at h3; exact h3
    | bk l' m' => rw [hsb] at h3; exact h3
    | ct l' m' => rw [hsb] at h3; exact h3
    | bad => rw [hsb] at h3; exact h3
    | ex c fs l' m' =>
      rw [hsb] at h3
      match fs, h3 with
      | [], h3 => exact h3.elim
      | [y], h3 =>
        dsimp only at h3
        by_cases hz : c = cn ∧ i < l'.length
        · rw [if_pos hz] at h3
          intro φ1 σ1 H1 x1 a1 b1
          refine ⟨y, hz.1, rfl, fun φ2 H2 d v x2 a2 b2 r2 e2 => ⟨true, T.te, fun _ a na => ?_, fun z => by cases z⟩⟩
          have hil : i < σ1.length := by rw [← b2.1]; exact hz.2
          exact ⟨.ref a, List.getElem?_set_self hil, rfl, rfl, d, [(fn, v)], v, rfl, e2, by simp [List.lookup], h3 φ2 H2 v (x1.trans x2) a2 r2⟩
        · rw [if_neg hz] at h3; exact h3.elim
      | _ :: _ :: _, h3 => exact h3.elim⟩
end
end SM
set_option Elab.async false
set_option linter.all false
set_option maxRecDepth 100000
set_option maxHeartbeats 2000000
namespace PySem
open Sem (wp)
end PySem
namespace SM
open PySem PySem.Spec PyProof.Rows L2
end SM
set_option Elab.async false
set_option linter.all false
set_option maxRecDepth 100000
set_option maxHeartbeats 2000000
namespace SM
open PySem PySem.Spec PyProof.Rows L2
end SM
set_option Elab.async false
set_option linter.all false
set_option maxRecDepth 100000
set_option maxHeartbeats 2000000
namespace SM
open PySem PySem.Spec PyProof.Rows L2
theorem each_vals : ∀ {zs : List (V × PyData)} {us : List Value}, Vals (zs.map (·.1)) us → PySem.W.EachIs (fun u (z : V × PyData) => RelV z.1 u) us zs
  | [], _, h => by cases h; exact .nil
  | z :: zs, _, h => by
    rw [List.map_cons] at h
    cases h with
    | cons h1 h2 => exact .cons h1 (each_vals h2)
theorem vals_each : ∀ {zs : List (V × PyData)} {us : List Value}, PySem.W.EachIs (fun u (z : V × PyData) => RelV z.1 u) us zs → Vals (zs.map (·.1)) us
  | _, _, .nil => .nil
  | _, _, .cons h1 h2 => .cons h1 (vals_each h2)
section
variable {X : Cx}
theorem each_reads {pins : List (Addr × Obj)} {s : Shared} {σ : L2.St} {H : Hp} (I : Inv X pins σ H s) : ∀ {zs : List (V × PyData)} {us : List Value}, Vals (zs.map (·.1)) us → (∀ z ∈ zs, Dp X.K H z.1 z.2) → PySem.W.EachIs (fun u (z : V × PyData) => ∃ as, Reads s.heap u z.2 as) us zs
  | [], _, h, _ => by cases h; exact .nil
  | z :: zs, _, h, d => by
    rw [List.map_cons] at h
    cases h with
    | cons h1 h2 => exact .cons (Dp.reads I _ _ _ (d z List.mem_cons_self) h1) (each_reads I h2 fun z hz => d z (List.mem_cons_of_mem _ hz))
end
def dOf (m : MH) (x : PV) : PyData := (toD m 8 x).getD .none
structure SortOk (m : MH) (xs : List PV) : Prop where
  rd : ∀ x ∈ xs, ∃ d, toD m 8 x = some d
  al : PySem.W.AllAlike (xs.map (dOf m))
  so : PySem.W.Sortable (xs.map (dOf m))
  dp : ∀ x ∈ xs, (dOf m x).depth ≤ 60
section
variable {K : PySem.W.Frag} {H : Hp} {φ : List Addr}
/-- the values together with their data -/
theorem zip_data {m : MH} (h : RH K H φ m) : ∀ {xs : List PV} {ws : List V}, RVs K H φ xs ws → (∀ x ∈ xs, ∃ d, toD m 8 x = some d) →
    ∃ zs : List (V × PyData), zs.map (·.1) = ws ∧ zs.map (·.2) = xs.map (dOf m) ∧ (∀ z ∈ zs, Dp K H z.1 z.2) ∧ PySem.W.EachIs (fun (p : PV × PyData) (z : V × PyData) => RV K H φ p.1 z.1 ∧ p.2 = z.2) (xs.map fun x => (x, dOf m x)) zs
  | [], _, r, _ => by cases r; exact ⟨[], rfl, rfl, (fun z hz => nomatch hz), .nil⟩
  | x :: xs, _, r, d => by
    obtain ⟨v, ws, rfl, r1, r2⟩ := r
    obtain ⟨zs, e1, e2, e3, e4⟩ := zip_data h r2 fun y hy => d y (List.mem_cons_of_mem _ hy)
    obtain ⟨dx, hd⟩ := d x List.mem_cons_self
    have ed : dOf m x = dx := by unfold dOf; rw [hd]; rfl
    refine ⟨(v, dx) :: zs, by rw [List.map_cons, e1], by rw [List.map_cons, List.map_cons, e2, ed], fun z hz => ?_, ?_⟩
    · rcases List.mem_cons.mp hz with rfl | hz
      · exact dp_of h 8 x v dx r1 hd
      · exact e3 z hz
    · rw [List.map_cons, ed]
      exact .cons ⟨r1, rfl⟩ e4
theorem rvs_each : ∀ {ps : List (PV × PyData)} {zs : List (V × PyData)}, PySem.W.EachIs (fun (p : PV × PyData) (z : V × PyData) => RV K H φ p.1 z.1 ∧ p.2 = z.2) ps zs → RVs K H φ (ps.map (·.1)) (zs.map (·.1))
  | _, _, .nil => rfl
  | _, _, .cons h1 h2 => ⟨_, _, rfl, h1.1, rvs_each h2⟩
end
def putD {κ : Type} [DecidableEq κ] (kvs : List (κ × PV)) (k : κ) (v : PV) : List (κ × PV) :=
  if (kvs.any fun p => decide (p.1 = k)) = true then kvs.map (fun p => if p.1 = k then (p.1, v) else p) else kvs ++ [(k, v)]
def getD {κ : Type} [DecidableEq κ] (kvs : List (κ × PV)) (k : κ) : Option PV := (kvs.find? fun p => decide (p.1 = k)).map (·.2)
theorem encT_inj {a b : List Int} : encT a = encT b ↔ a = b := by
  unfold encT
  constructor
  · intro h
    induction a generalizing b with
    | nil => cases b with
      | nil => rfl
      | cons y b => cases h
    | cons x a ih => cases b with
      | nil => cases h
      | cons y b =>
        rw [List.map_cons, List.map_cons] at h
        injection h with h1 h2
        rw [Sum.inl.inj h1, ih h2]
  · rintro rfl; rfl
section
variable {K : PySem.W.Frag} {H : Hp} {φ : List Addr} {κ κ' : Type} [DecidableEq κ] [DecidableEq κ'] {enc : κ → κ'}
theorem rks_len : ∀ {kvs : List (κ × PV)} {ws : List (κ' × V)}, RKs K H φ enc kvs ws → ws.length = kvs.length
  | [], _, h => by cases h; rfl
  | p :: r, _, h => by obtain ⟨v, t, rfl, _, h3⟩ := h; simp [rks_len h3]
theorem rks_get (inj : ∀ {a b}, enc a = enc b ↔ a = b) {k : κ} {x : PV} : ∀ {kvs : List (κ × PV)} {ws : List (κ' × V)}, RKs K H φ enc kvs ws → getD kvs k = some x → ∃ v, valV ws (enc k) = some v ∧ RV K H φ x v
  | [], _, h, e => by cases e
  | p :: r, _, h, e => by
    obtain ⟨v, t, rfl, h2, h3⟩ := h
    unfold getD at e
    rw [List.find?_cons] at e
    by_cases c : p.1 = k
    · rw [decide_eq_true c] at e
      cases e
      exact ⟨v, valV_pos (by rw [c]), h2⟩
    · rw [decide_eq_false c] at e
      obtain ⟨w, e1, e2⟩ := rks_get inj (k := k) h3 e
      exact ⟨w, by rw [valV_neg (by intro z; exact c (inj.mp z))]; exact e1, e2⟩
theorem rks_any (inj : ∀ {a b}, enc a = enc b ↔ a = b) {k : κ} : ∀ {kvs : List (κ × PV)} {ws : List (κ' × V)}, RKs K H φ enc kvs ws → (ws.any fun p => decide (p.1 = enc k)) = kvs.any fun p => decide (p.1 = k)
  | [], _, h => by cases h; rfl
  | p :: r, _, h => by
    obtain ⟨v, t, rfl, h2, h3⟩ := h
    rw [List.any_cons, List.any_cons, rks_any inj h3]
    congr 1
    exact decide_eq_decide.mpr inj
theorem rks_rep (inj : ∀ {a b}, enc a = enc b ↔ a = b) {k : κ} {x : PV} {v : V} (q : RV K H φ x v) : ∀ {kvs : List (κ × PV)} {ws : List (κ' × V)}, RKs K H φ enc kvs ws →
    RKs K H φ enc (kvs.map fun p => if p.1 = k then (p.1, x) else p) (ws.map fun p => if p.1 = enc k then (p.1, v) else p)
  | [], _, h => by cases h; rfl
  | p :: r, _, h => by
    obtain ⟨u, t, rfl, h2, h3⟩ := h
    rw [List.map_cons, List.map_cons]
    by_cases c : p.1 = k
    · rw [if_pos c, if_pos (by rw [c])]
      exact ⟨v, _, rfl, q, rks_rep inj q h3⟩
    · rw [if_neg c, if_neg (by intro z; exact c (inj.mp z))]
      exact ⟨u, _, rfl, h2, rks_rep inj q h3⟩
theorem rks_snoc {k : κ} {x : PV} {v : V} (q : RV K H φ x v) : ∀ {kvs : List (κ × PV)} {ws : List (κ' × V)}, RKs K H φ enc kvs ws → RKs K H φ enc (kvs ++ [(k, x)]) (ws ++ [(enc k, v)])
  | [], _, h => by cases h; exact ⟨v, [], rfl, q, rfl⟩
  | p :: r, _, h => by
    obtain ⟨u, t, rfl, h2, h3⟩ := h
    exact ⟨u, _, rfl, h2, rks_snoc q h3⟩
theorem rks_put (inj : ∀ {a b}, enc a = enc b ↔ a = b) {k : κ} {x : PV} {v : V} (q : RV K H φ x v) {kvs : List (κ × PV)} {ws : List (κ' × V)} (h : RKs K H φ enc kvs ws) : RKs K H φ enc (putD kvs k x) (putK ws (enc k) v) := by
  unfold putD putK
  rw [rks_any inj h]
  by_cases c : (kvs.any fun p => decide (p.1 = k)) = true
  · rw [if_pos c, if_pos c]; exact rks_rep inj q h
  · rw [if_neg c, if_neg c]; exact rks_snoc q h
end
/-- d[key] -/
def dgetv : PV → PV → MH → OR
  | .ref n, .tup [.int a, .int b], m => match m[n]? with
    | some (.dct kvs) => (getD kvs [a, b]).map fun x => (x, m)
    | _ => none
  | _, _, _ => none
section
variable {X : Cx} {W : XM} {pos pos' pt : Pos} {value o i : Expr} {sv sd sk : SE} {ska : SA} {es : List Expr} {k k2 : Nat}
def tDGetS (K : PySem.W.Frag) (td ty : TE) : TE := fun σ H Q => td σ H fun x H1 => ty σ H1 fun y H2 => ∃ (a b : Addr) (kvs : List (List Key × V)) (k : List Key) (v : V), x = .ref a ∧ y = .ref b ∧ H2 a = some (.dT kvs) ∧ SqT K H2 b (k.map kV) ∧ valV kvs k = some v ∧ Q v H2
theorem pe_dgetS {td ty : TE} (hu : X.A.units + 1 < cLine) (ho : PE X o td) (hi : PE X i ty) (hs : NoSl i) : PE X (.Subscript o i pos) (tDGetS X.K td ty) := by
  refine ⟨fun pins s σ H Q I h => ?_⟩
  refine subD_of PySem.F.slot_dict_getitem.lookup hs (thn (ho.run pins s σ H _ I h) fun u s1 ⟨x, H1, I1, rx, q1⟩ => thn (hi.run pins s1 σ H1 _ I1 q1) fun iv s2 ⟨y, H2, I2, ry, a, b, kvs, k, v, ex, ey, hd, hk, hv, q2⟩ => ?_)
  subst ex ey
  obtain rfl : u = Value.ref a := rx
  obtain rfl : iv = Value.ref b := ry
  obtain ⟨z, hsm, xs, rel, dd⟩ := dt_of I2.hok hd
  obtain ⟨its, r, ⟨ob, hob, hc, n, hdt⟩, _⟩ := I2.tuple hk
  obtain ⟨od, es, ep, hod, hx, _⟩ := id dd
  obtain ⟨w', hw, rw'⟩ := RelO.some_of (v := v) (o := (atKey xs k).map (·.2)) (by rw [← hv]; exact rel.val k)
  obtain ⟨p, hp, hp2⟩ := Option.map_eq_some_iff.mp hw
  have key : (tupleKind (mixKind X.prog X.w)).is s2.heap k b := ⟨ob, its.toArray, n, hob, hc, hdt, by simpa using items_are r⟩
  refine ⟨⟨od, hod, hx.1⟩, wpAny_getItem_heap (tupleKind_room_in1 hu) key dd hp ?_⟩
  rw [hp2]
  exact ⟨v, H2, I2.tok _, rw', q2⟩
theorem q_dget (hr : Room k X.A) (ho : QE X W o sd) (hi : QE X W i sk) (hs : NoSl i) : QE X W (.Subscript o i pos) (sOp dgetv sd sk) :=
  ⟨pe_imp (pe_dgetS (by have := hr.units; omega) ho.pe hi.pe hs) fun σ H Q h => (two h).mono fun v H1 h1 => Rdg.mono h1 fun w H2 ⟨φ, m, x, y, _, c1, c2, c3, c4⟩ => by
    unfold dgetv at c4
    split at c4
    · rename_i n a b
      split at c4
      · rename_i kvs hm
        cases hg : getD kvs [a, b] with
        | none => rw [hg] at c4; exact c4.elim
        | some z =>
          rw [hg] at c4
          obtain ⟨ad, ha, rfl⟩ := c2
          obtain ⟨ws, q1, q2⟩ := c1.obj n ad _ ha hm
          obtain ⟨bd, us, rfl, t1, t2⟩ := c3
          have eus : us = (encT [a, b]).map kV := by
            obtain ⟨u1, r1, rfl, t3, u2, r2, rfl, t4, t5⟩ := t2
            cases t3; cases t4; cases t5
            rfl
          rw [eus] at t1
          obtain ⟨u, e1, e2⟩ := rks_get encT_inj q2 hg
          exact ⟨ad, bd, ws, _, u, rfl, rfl, q1, t1, e1, c4 φ H2 u Ext.refl c1 e2⟩
      · exact c4.elim
    · exact c4.elim⟩
end
end SM
set_option Elab.async false
set_option linter.all false
set_option maxRecDepth 100000
set_option maxHeartbeats 2000000
namespace SM
open PySem PySem.Spec PyProof.Rows L2
abbrev inn (X : Cx) : Cx := { X with A := X.A.in1.in1, xe := fun _ _ => False }
section
variable {X : Cx} {pins : List (Addr × Obj)} {σ : L2.St} {H : Hp} {s : Shared}
theorem ok_inn (o : X.Ok) : (inn X).Ok := { mod := o.mod, kind := o.kind, glob := o.glob, blt := o.blt, above := o.above, inj := o.inj, has := o.has, cab := o.cab, hd := o.hd, frames := o.frames, stk := o.stk, exf := o.exf, bs := o.bs, bsz := o.bsz, noex := o.noex, exfs := o.exfs, funs := o.funs, frf := o.frf }
theorem inv_inn (I : Inv X pins σ H s) : Inv (inn X) pins σ H s := { ok := ok_inn I.ok, os := I.os, bare := I.bare, base := I.base, loc := I.loc, cell := I.cell, free := I.free, freeC := I.freeC, pin := I.pin, hok := I.hok, len := I.len }
theorem inv_out (o : X.Ok) (I : Inv (inn X) pins σ H s) : Inv X pins σ H s := { ok := o, os := I.os, bare := I.bare, base := I.base, loc := I.loc, cell := I.cell, free := I.free, freeC := I.freeC, pin := I.pin, hok := I.hok, len := I.len }
end
def keyOf (g : FS) (m : MH) (x : PV) : PV := match g [x] m with
  | .ok k _ => k
  | _ => .non
structure SortKOk (g : FS) (m : MH) (xs : List PV) : Prop where
  kk : ∀ x ∈ xs, ∃ k, g [x] m = .ok k m
  ok : SortOk m (xs.map (keyOf g m))
noncomputable def sortK (g : FS) (m : MH) (xs : List PV) : List PV := ((xs.map fun x => (x, dOf m (keyOf g m x))).mergeSort (PySem.W.dataLe false (·.2))).map (·.1)
section
variable {X : Cx} {pins : List (Addr × Obj)} {σ : L2.St} {H : Hp} {s : Shared}
/-- where the keys stand while the def runs, item by item -/
def KInv (X : Cx) (pins : List (Addr × Obj)) (σ : L2.St) (H : Hp) (φ : List Addr) (m : MH) (g : FS) (xs : List PV) (D kS : Addr) (e1 : Nat) (i : Nat) (t : Shared) : Prop :=
  ∃ (H' : Hp) (φ' : List Addr) (kv : List V) (kA : Array Value) (e : Nat), Inv X pins σ H' t ∧ H' kS = none ∧ H' D = none ∧ Ext X.K φ H φ' H' ∧ RH X.K H' φ' m ∧ RVs X.K H' φ' ((xs.take i).map (keyOf g m)) kv ∧ Vals kv kA.toList ∧
    t.heap.get? kS = some (seqObj "list" kA e) ∧ t.heap.get? D = some (seqObj "list" #[] e1)
theorem rvs_dp {K : PySem.W.Frag} {H : Hp} {φ : List Addr} {m : MH} (h : RH K H φ m) : ∀ {xs : List PV} {vs : List V}, RVs K H φ xs vs → (∀ x ∈ xs, ∃ d, toD m 8 x = some d) →
    ∃ zs : List (V × PyData), zs.map (·.1) = vs ∧ zs.map (·.2) = xs.map (dOf m) ∧ ∀ z ∈ zs, Dp K H z.1 z.2 := fun r d => by
  obtain ⟨zs, a, b, c, _⟩ := zip_data h r d
  exact ⟨zs, a, b, c⟩
theorem each_map_snd {h : Heap} : ∀ {zs : List (V × PyData)} {us : List Value}, PySem.W.EachIs (fun u (z : V × PyData) => ∃ as, Reads h u z.2 as) us zs → PySem.W.EachIs (fun u d => ∃ as, Reads h u d as) us (zs.map (·.2))
  | _, _, .nil => .nil
  | _, _, .cons h1 h2 => .cons h1 (each_map_snd h2)
theorem zip_keys {K : PySem.W.Frag} {H : Hp} {φ : List Addr} {m : MH} {g : FS} : ∀ {xs : List PV} {ws : List V}, RVs K H φ xs ws →
    ∃ zs : List (V × PyData), zs.map (·.1) = ws ∧ zs.map (·.2) = (xs.map (keyOf g m)).map (dOf m) ∧ PySem.W.EachIs (fun (p : PV × PyData) (z : V × PyData) => RV K H φ p.1 z.1 ∧ p.2 = z.2) (xs.map fun x => (x, dOf m (keyOf g m x))) zs
  | [], _, r => by cases r; exact ⟨[], rfl, rfl, .nil⟩
  | x :: xs, _, r => by
    obtain ⟨v, vs, rfl, r1, r2⟩ := r
    obtain ⟨zs, e1, e2, e3⟩ := zip_keys (m := m) (g := g) r2
    exact ⟨(v, _) :: zs, by rw [List.map_cons, e1], by rw [List.map_cons, e2]; rfl, .cons ⟨r1, rfl⟩ e3⟩
end
end SM
set_option Elab.async false
set_option linter.all false
set_option maxRecDepth 100000
set_option maxHeartbeats 2000000
namespace SM
open PySem PySem.Spec PyProof.Rows L2
def maxI : List Int → Option Int
  | [] => none
  | x :: xs => some (xs.foldl (fun a b => if a < b then b else a) x)
theorem foldMax_ge : ∀ (xs : List Int) (x : Int), x ≤ xs.foldl (fun a b => if a < b then b else a) x ∧ ∀ y ∈ xs, y ≤ xs.foldl (fun a b => if a < b then b else a) x
  | [], x => ⟨Int.le_refl _, fun y h => by cases h⟩
  | z :: zs, x => by
    obtain ⟨h1, h2⟩ := foldMax_ge zs (if x < z then z else x)
    rw [List.foldl_cons]
    have h3 : x ≤ (if x < z then z else x) ∧ z ≤ (if x < z then z else x) := by split <;> omega
    refine ⟨by omega, fun y hy => ?_⟩
    rcases List.mem_cons.mp hy with rfl | hy
    · omega
    · exact h2 y hy
theorem foldMax_mem : ∀ (xs : List Int) (x : Int), xs.foldl (fun a b => if a < b then b else a) x = x ∨ xs.foldl (fun a b => if a < b then b else a) x ∈ xs
  | [], x => .inl rfl
  | z :: zs, x => by
    rw [List.foldl_cons]
    rcases foldMax_mem zs (if x < z then z else x) with h | h
    · rw [h]
      split
      · exact .inr List.mem_cons_self
      · exact .inl rfl
    · exact .inr (List.mem_cons_of_mem _ h)
theorem maxI_ok {xs : List Int} {m : Int} (h : maxI xs = some m) : m ∈ xs ∧ ∀ y ∈ xs, y ≤ m := by
  cases xs with
  | nil => cases h
  | cons x xs =>
    cases h
    obtain ⟨h1, h2⟩ := foldMax_ge xs x
    refine ⟨?_, fun y hy => ?_⟩
    · rcases foldMax_mem xs x with h | h
      · rw [h]; exact List.mem_cons_self
      · exact List.mem_cons_of_mem _ h
    · rcases List.mem_cons.mp hy with rfl | hy
      · exact h1
      · exact h2 y hy
end SM
set_option Elab.async false
set_option linter.all false
set_option maxRecDepth 100000
set_option maxHeartbeats 2000000
namespace SM
open PySem PySem.Spec PyProof.Rows L2
theorem inV_strs {s : List Nat} {ss : List (List Nat)} : _root_.L2.inV (V.str ⟨s.toArray⟩) ((ss.map fun y => (⟨y.toArray⟩ : Str)).map V.str) = decide (s ∈ ss) := by
  unfold L2.inV
  rw [List.map_map, List.any_map]
  refine any_mem ?_
  constructor
  · rintro ⟨u, h1, h2⟩
    have h2 : ((⟨u.toArray⟩ : Str) == ⟨s.toArray⟩) = true := h2
    rw [arr_inj] at h2
    exact (of_decide_eq_true h2) ▸ h1
  · intro h
    exact ⟨s, h, show ((⟨s.toArray⟩ : Str) == ⟨s.toArray⟩) = true by rw [arr_inj]; exact decide_eq_true rfl⟩
def KV (K : PySem.W.Frag) (x : PV) (v : V) : Prop := ∀ H φ, RV K H φ x v
def KVs (K : PySem.W.Frag) (xs : List PV) (vs : List V) : Prop := ∀ H φ, RVs K H φ xs vs
theorem rel_str {x : Str} {t : Tok} : RelV (V.str x) (Value.str x t) := ⟨t, rfl⟩
theorem rel_int {i : Int} {t : Tok} : RelV (V.int i) (Value.int i t) := ⟨t, rfl⟩
theorem kv_nil {K : PySem.W.Frag} : KVs K [] [] := fun _ _ => rfl
theorem kv_cons {K : PySem.W.Frag} {x : PV} {v : V} {xs : List PV} {vs : List V} (h : KV K x v) (r : KVs K xs vs) : KVs K (x :: xs) (v :: vs) := fun H φ => ⟨v, vs, rfl, h H φ, r H φ⟩
theorem kv_str {K : PySem.W.Frag} {s : List Nat} : KV K (.str s) (.str ⟨s.toArray⟩) := fun _ _ => rfl
theorem kv_int {K : PySem.W.Frag} {i : Int} : KV K (.int i) (.int i) := fun _ _ => rfl
theorem kv_tup {K : PySem.W.Frag} {a : Addr} {od : Option Addr} {its : Array Value} {n : Nat} {sl : Array (Option Value)} {xs : List PV} {vs : List V} (h : K.lookup a = some ⟨.type "tuple", od, .seq its n, sl⟩) (hz : its.size ≤ sizeLine) (hv : Vals vs its.toList) (hk : KVs K xs vs) : KV K (.tup xs) (.ref a) :=
  fun H φ => ⟨a, vs, rfl, .inr ⟨_, its, n, h, rfl, rfl, hz, hv⟩, hk H φ⟩
section
variable {X : Cx} {W : XM} {pos : Pos}
theorem q_globV {x : Str} {u : Value} {v : V} {y : PV} (hg : Gl X x) (hm : X.mg x = some u) (hr : RelV v u) (hk : KV X.K y v) (hd : (x == ("__debug__" : Str)) = false := by decide) : QE X W (.Name x pos) (sC y) :=
  ⟨pe_imp (pe_glob hg hm hr hd) fun σ H Q ⟨φ, l, m, h1, h2, h3⟩ => h3 φ H _ Ext.refl h1 (hk H φ)⟩
end
structure KTab (K : PySem.W.Frag) (w : World) (d : Addr) (T : List (List Nat × Option PV)) : Prop where
  dk : ∃ es n, KDict K w d es n
  ok : ∀ p ∈ T, match p.2 with
    | none => PySem.W.nsIn K d ⟨p.1.toArray⟩ = some none
    | some x => ∃ u v, PySem.W.nsIn K d ⟨p.1.toArray⟩ = some (some u) ∧ RelV v u ∧ KV K x v
def tabGet (T : List (List Nat × Option PV)) (s : List Nat) : Option (Option PV) := (T.find? fun p => decide (p.1 = s)).map (·.2)
theorem tab_mem {T : List (List Nat × Option PV)} {s : List Nat} {r : Option PV} (h : tabGet T s = some r) : (s, r) ∈ T := by
  unfold tabGet at h
  obtain ⟨p, h1, h2⟩ := Option.map_eq_some_iff.mp h
  have h3 := List.find?_some h1
  simp at h3
  have := List.mem_of_find?_eq_some h1
  rw [← h2, ← h3]
  exact this
def kgetv (T : List (List Nat × Option PV)) : PV → MH → OR
  | .str s, m => match tabGet T s with
    | some (some x) => some (x, m)
    | _ => none
  | _, _ => none
section
variable {X : Cx} {W : XM} {e : Expr} {se : SE} {x : Str} {d : Addr} {T : List (List Nat × Option PV)} {p pos : Pos}
theorem q_getK (hg : Gl X x) (hm : X.mg x = some (.ref d)) (ht : KTab X.K X.w d T) (he : QE X W e se) (hs : PlainIx e) (hd : (x == ("__debug__" : Str)) = false := by decide) : QE X W (.Subscript (.Name x p) e pos) (sUn (kgetv T) se) := by
  obtain ⟨es, n, D⟩ := ht.dk
  refine ⟨pe_imp (pe_ix ix_kdict (pe_glob (v := .ref d) hg hm rfl hd) he.pe hs) fun σ H Q h => (one h).mono fun v H1 ⟨φ, m, x, _, c1, c2, c3⟩ => ?_⟩
  have c4 := PostO.of c3
  unfold kgetv at c4
  split at c4
  · rename_i s
    cases c2
    split at c4
    · rename_i x hr
      obtain ⟨u, v, e1, e2, e3⟩ := ht.ok _ (tab_mem hr)
      exact ⟨d, _, v, rfl, rfl, ⟨es, n, u, D.at_, D.lit, e1, e2⟩, c4.same c1 (e3 H1 φ)⟩
    · exact c4.not.elim
  · exact c4.not.elim
end
end SM
set_option Elab.async false
set_option linter.all false
set_option maxRecDepth 100000
set_option maxHeartbeats 2000000
namespace SM
open PySem PySem.Spec PyProof.Rows L2
end SM
namespace SM
open PySem PySem.Spec PyProof.Rows L2
end SM
set_option Elab.async false
set_option linter.all false
set_option maxRecDepth 100000
set_option maxHeartbeats 2000000
namespace SM
open PySem PySem.Spec PyProof.Rows L2
end SM
set_option Elab.async false
set_option linter.all false
set_option maxRecDepth 100000
set_option maxHeartbeats 2000000
namespace SM
open PySem PySem.Spec PyProof.Rows L2
end SM
set_option Elab.async false
set_option linter.all false
set_option maxRecDepth 100000
set_option maxHeartbeats 2000000
namespace SM
open PySem PySem.Spec PyProof.Rows L2
theorem RL.hide {K : PySem.W.Frag} {H : Hp} {φ : List Addr} {l : Loc} {σ : L2.St} {i : Nat} {v : Option V} (h : RL K H φ l σ) : RL K H φ (l.set i none) (σ.set i v) := by
  refine ⟨by simpa using h.1, fun k x e => ?_⟩
  by_cases c : i = k
  · subst c
    by_cases hl : i < l.length
    · rw [List.getElem?_set_self hl] at e; cases e
    · rw [List.getElem?_eq_none (by simpa using hl)] at e; cases e
  · rw [List.getElem?_set_ne c] at e
    obtain ⟨v, e1, e2⟩ := h.2 k x e
    exact ⟨v, by rw [List.getElem?_set_ne c]; exact e1, e2⟩
end SM
set_option Elab.async false
set_option linter.all false
set_option maxRecDepth 100000
set_option maxHeartbeats 2000000
namespace SM
open PySem PySem.Spec PyProof.Rows L2
end SM
namespace SM
open PySem PySem.Spec PyProof.Rows L2
end SM
set_option Elab.async false
set_option linter.all false
set_option maxRecDepth 100000
set_option maxHeartbeats 2000000
namespace SM
open PySem PySem.Spec PyProof.Rows L2
end SM
set_option Elab.async false
set_option linter.all false
set_option maxRecDepth 100000
set_option maxHeartbeats 2000000
namespace SM
open PySem PySem.Spec PyProof.Rows L2
end SM
set_option Elab.async false
set_option linter.all false
set_option maxRecDepth 100000
set_option maxHeartbeats 2000000
namespace L2
open PySem PySem.Spec PyProof.Rows
end L2
namespace SM
open PySem PySem.Spec PyProof.Rows L2
end SM
set_option Elab.async false
set_option linter.all false
set_option maxRecDepth 100000
set_option maxHeartbeats 2000000
namespace SM
open PySem PySem.Spec PyProof.Rows L2
end SM
set_option Elab.async false
set_option linter.all false
set_option maxRecDepth 100000
set_option maxHeartbeats 2000000
namespace SM
open PySem PySem.Spec PyProof.Rows L2
end SM
set_option Elab.async false
set_option linter.all false
set_option maxRecDepth 100000
set_option maxHeartbeats 2000000
namespace L2
open PySem PySem.Spec PyProof.Rows
end L2
namespace SM
open PySem PySem.Spec PyProof.Rows L2
end SM
set_option Elab.async false
set_option linter.all false
set_option maxRecDepth 100000
set_option maxHeartbeats 2000000
namespace L2
open PySem PySem.Spec PyProof.Rows LiI
end L2
namespace SM
open PySem PySem.Spec PyProof.Rows L2
theorem SqT.grow {K : PySem.W.Frag} {H H' : Hp} (h : ∀ b o, H b = some o → H' b = some o) {a : Addr} {vs : List V} (q : SqT K H a vs) : SqT K H' a vs := by
  rcases q with (q | ⟨o, q⟩) | q
  · exact .inl (.inl (h _ _ q))
  · exact .inl (.inr ⟨o, h _ _ q⟩)
  · exact .inr q
theorem SqF.grow {K : PySem.W.Frag} {H H' : Hp} (h : ∀ b o, H b = some o → H' b = some o) {a : Addr} {vs : List V} (q : SqF K H a vs) : SqF K H' a vs := by
  rcases q with ⟨o, q⟩ | q
  · exact .inl ⟨o, h _ _ q⟩
  · exact .inr q
theorem RH.grow {K : PySem.W.Frag} {H H' : Hp} {φ : List Addr} {m : MH} (g : RH K H φ m) (h : ∀ b o, H b = some o → H' b = some o) : Ext K φ H φ H' ∧ RH K H' φ m := by
  have e : Ext K φ H φ H' := ⟨⟨[], by simp⟩, fun a vs q => SqT.grow h q, fun a od ws q => h _ _ q, fun a fs q => h _ _ q, fun a q' q => h _ _ q⟩
  refine ⟨e, g.len, g.nd, fun n a o h1 h2 => ?_⟩
  have q := g.obj n a o h1 h2
  cases o with
  | lst ys =>
    obtain ⟨ws, q1, q2⟩ := q
    exact ⟨ws, h _ _ q1, q2.ext e⟩
  | frz ys =>
    obtain ⟨ws, q1, q2⟩ := q
    exact ⟨ws, SqF.grow h q1, q2.ext e⟩
  | dct ys =>
    obtain ⟨ws, q1, q2⟩ := q
    exact ⟨ws, h _ _ q1, q2.ext e⟩
  | dck ys =>
    obtain ⟨ws, q1, q2⟩ := q
    exact ⟨ws, h _ _ q1, q2.ext e⟩
  | frk ys =>
    obtain ⟨od, ws, q1, q2⟩ := q
    exact ⟨od, ws, h _ _ q1, q2.ext e⟩
  | dcs ys =>
    obtain ⟨ws, q1, q2⟩ := q
    exact ⟨ws, h _ _ q1, q2.ext e⟩
  | frs ys =>
    obtain ⟨od, ws, q1, q2⟩ := q
    exact ⟨od, ws, h _ _ q1, q2.ext e⟩
  | ins ys =>
    obtain ⟨C, dx, ws, c1, q1, q3, q2⟩ := q
    exact ⟨C, dx, ws, c1, h _ _ q1, q3, q2.ext e⟩
  | tbl P q0 =>
    obtain ⟨rfl, t⟩ := q
    exact ⟨rfl, t.ext h⟩
end SM
set_option Elab.async false
set_option linter.all false
set_option maxRecDepth 100000
set_option maxHeartbeats 2000000
namespace L2
open PySem PySem.Spec PyProof.Rows LiI
end L2
namespace SM
open PySem PySem.Spec PyProof.Rows L2
end SM
set_option Elab.async false
set_option linter.all false
set_option maxRecDepth 100000
set_option maxHeartbeats 2000000
namespace SM
open PySem PySem.Spec PyProof.Rows L2
theorem all_flat (ss : List (List Nat)) : ((ss.map fun y => (⟨y.toArray⟩ : Str)).map V.str).all flatV = true := by rw [List.all_map]; exact List.all_eq_true.mpr fun _ _ => rfl
end SM
set_option Elab.async false
set_option linter.all false
set_option maxRecDepth 100000
set_option maxHeartbeats 2000000
namespace SM
open PySem PySem.Spec PyProof.Rows L2
/-- what is known of the class -/
structure BkC (K : PySem.W.Frag) (C : Addr) : Prop where
  at_ : ClsB K C
  cl : Cls K C
  no : ∀ f ∈ fldN, NoAttr K C f
theorem ClsB.inj {K : PySem.W.Frag} {C D : Addr} (h : ClsB K C) (g : ClsB K D) : C = D := by
  unfold ClsB at h g
  rw [h] at g
  cases g
  rfl
theorem zip_look : ∀ {i : Nat} {f : PySem.Str} {ws : List V} {v : V}, fldN[i]? = some f → ws[i]? = some v → (fldN.zip ws).lookup f = some v
  | 0, f, ws, v, h, g => by
    cases ws with
    | nil => cases g
    | cons a r => cases h; cases g; rfl
  | 1, f, ws, v, h, g => by
    match ws, g with
    | a :: b :: r, g => cases h; cases g; rfl
  | 2, f, ws, v, h, g => by
    match ws, g with
    | a :: b :: c :: r, g => cases h; cases g; rfl
  | n + 3, f, ws, v, h, g => by cases h
theorem zip_none {f : PySem.Str} {ws : List V} (h : f ∉ fldN) : (fldN.zip ws).lookup f = none := by
  have key : ∀ (xs : List PySem.Str) (ws : List V), f ∉ xs → (xs.zip ws).lookup f = none := by
    intro xs
    induction xs with
    | nil => intro ws _; rfl
    | cons x xs ih =>
      intro ws hn
      cases ws with
      | nil => rfl
      | cons w ws =>
        have h1 : f ≠ x := fun z => hn (by rw [z]; exact List.mem_cons_self)
        show ((x, w) :: xs.zip ws).lookup f = none
        rw [List.lookup_cons, beq_false_of_ne h1]
        exact ih ws fun z => hn (List.mem_cons_of_mem _ z)
  exact key fldN ws h
theorem zip_put : ∀ {f : PySem.Str} {ws : List V} {v : V}, fldN[ws.length]? = some f → putF f v (fldN.zip ws) = fldN.zip (ws ++ [v])
  | f, [], v, h => by cases h; rfl
  | f, [a], v, h => by cases h; rfl
  | f, [a, b], v, h => by cases h; rfl
  | f, a :: b :: c :: r, v, h => by cases h
def sFldE (i : Nat) (se : SE) : SE := fun l m => (se l m).bind fun x m1 => match x with
  | .ref n => match m1[n]? with
    | some (.ins fs) => match fs[i]? with
      | some y => .ok y m1
      | none => .bad
    | _ => .bad
  | _ => .bad
section
variable {X : Cx} {W : XM} {e o : Expr} {se so : SE} {C : Addr} {f : PySem.Str} {i : Nat} {pos pos' : Pos}
theorem q_fld (B : BkC X.K C) (hf : fldN[i]? = some f) (he : QE X W e se) (hb : attributeBase e f X.env (eval e X.env) = eval e X.env := by rfl) : QE X W (.Attribute e f pos) (sFldE i se) :=
  ⟨pe_imp (pe_fld he.pe hb) fun σ H Q h => (one h).mono fun v H1 ⟨φ, m, x, l, c1, c2, c3⟩ => by
    cases x with
    | ref n =>
      obtain ⟨a, ha, rfl⟩ := c2
      dsimp only at c3
      cases hm : m[n]? with
      | none => rw [hm] at c3; exact c3.elim
      | some ob =>
        rw [hm] at c3
        cases ob with
        | ins fs =>
          dsimp only at c3
          cases hy : fs[i]? with
          | none => rw [hy] at c3; exact c3.elim
          | some y =>
            rw [hy] at c3
            obtain ⟨D, dx, ws, d1, d2, d3, d4⟩ := c1.obj n a _ ha hm
            obtain ⟨w, hw, rw'⟩ := d4.get hy
            cases d1.inj B.at_
            exact ⟨a, _, dx, _, w, rfl, d2, B.cl, B.no f (List.mem_of_getElem? hf), zip_look hf hw, c3 φ H1 w Ext.refl c1 rw'⟩
        | _ => exact c3.elim
    | _ => exact c3.elim⟩
def xFldS (i : Nat) (so sv : SE) : SS := fun l m => R.then l (sv l m) fun y m1 => R.then l (so l m1) fun x m2 => match x with
  | .ref n => match m2[n]? with
    | some (.ins fs) => if fs.length = i then .nx l (m2.set n (.ins (fs ++ [y]))) else .bad
    | _ => .bad
  | _ => .bad
theorem x_fldS {value : Expr} {sv : SE} (B : BkC X.K C) (hf : fldN[i]? = some f) (ho : QE X W o so) (hv : QE X W value sv) (hs : swapsWith value (some (.Attribute o f pos')) pos.line X.env = pure false := by rfl) :
    QS X W (.Assign [.Attribute o f pos'] value pos) (xFldS i so sv) :=
  ⟨ps_imp (ps_fld ho.pe hv.pe hs) fun D σ H ⟨φ, l, m, h1, h2, h3⟩ => by
    refine ⟨φ, l, m, h1, h2, (PostS.then (rel := rV X.K) h2 h3).mono ?_⟩
    rintro y' H1 ⟨φ1, y, m1, x1, a1, b1, r1, c1⟩
    refine ⟨φ1, l, m1, a1, b1, (PostS.then (rel := rV X.K) b1 c1).mono ?_⟩
    rintro v H2 ⟨φ2, x, m2, x2, a2, b2, r2, c2⟩
    cases x with
    | ref n =>
      obtain ⟨a, ha, rfl⟩ := r2
      dsimp only at c2
      cases hm : m2[n]? with
      | none => rw [hm] at c2; exact c2.elim
      | some ob =>
        rw [hm] at c2
        cases ob with
        | ins fs =>
          dsimp only at c2
          by_cases hl : fs.length = i
          · rw [if_pos hl] at c2
            obtain ⟨E, dx, ws, d1, d2, d3, d4⟩ := a2.obj n a _ ha hm
            cases d1.inj B.at_
            have hwl := d4.length
            have hil := (List.getElem?_eq_some_iff.mp hf).1
            have ez : putF f y' (fldN.zip ws) = fldN.zip (ws ++ [y']) := zip_put (by rw [hwl, hl]; exact hf)
            refine ⟨a, _, dx, _, rfl, d2, B.cl, B.no f (List.mem_of_getElem? hf), ?_, ?_⟩
            · rw [List.length_zip]
              have : fldN.length = 3 := rfl
              omega
            · rw [ez]
              obtain ⟨e2, r3⟩ := a2.setM (o2 := .ins (fs ++ [y])) (u2 := .ins C dx (fldN.zip (ws ++ [y']))) ha hm rfl d2 (fun _ z => by cases z) (fun _ _ z => by cases z) rfl fun e => ⟨C, dx, ws ++ [y'], B.at_, upd_same, by rw [List.length_append]; show fs.length + 1 ≤ fldN.length; omega, RVs.append (d4.ext e) ⟨y', [], rfl, (RV.ext x2 r1).ext e, rfl⟩⟩
              exact c2 φ2 σ _ e2 r3 (b2.ext e2)
          · rw [if_neg hl] at c2; exact c2.elim
        | _ => exact c2.elim
    | _ => exact c2.elim⟩
end
def isIns (m : MH) : PV → Bool
  | .ref n => match m[n]? with
    | some (.ins _) => true
    | _ => false
  | _ => false
def CalM (P : Program) (w : World) (K : PySem.W.Frag) (mg : Str → Option Value) (base : Heap) (C : Addr) (mth : Str) (n k : Nat) (f : FS) : Prop :=
  ∃ (fa : Addr) (fd : FuncData) (ps : List Str), ps.length = n ∧ FnOk P w K mg base CX0 k fa fd ps (SpQ K n f) ∧ Meth K C mth fa ∧ Binds K fd ps []
theorem calM_mk {P : Program} {w : World} {K : PySem.W.Frag} {mg : Str → Option Value} {base : Heap} {C : Addr} {mth : Str} {f : Addr} {fd : FuncData} {ps : List Str} {k n : Nat} {g : FS} (hn : ps.length = n) (G : FnOk P w K mg base CX0 k f fd ps (SpQ K n g)) (hm : Meth K C mth f) (hb : Binds K fd ps []) : CalM P w K mg base C mth n k g :=
  ⟨f, fd, ps, hn, G, hm, hb⟩
def sMethB (n : Nat) (f : FS) (so : SE) (sa : SA) : SE := fun l m => (so l m).bind fun x m1 => if isIns m1 x = true then (sa l m1).bind fun xs m2 => if xs.length + 1 = n then noex (f (x :: xs) m2) else .bad else .bad
section
variable {X : Cx} {W : XM} {e o : Expr} {es : List Expr} {so : SE} {ses : SA} {C : Addr} {mth x : Str} {n k j : Nat} {f : FS} {p pos apos : Pos}
theorem isIns_at {H : Hp} {φ : List Addr} {m : MH} {x : PV} {v : V} (c1 : RH X.K H φ m) (c2 : RV X.K H φ x v) (hi : isIns m x = true) (B : BkC X.K C) : ∃ a dx ws, v = .ref a ∧ H a = some (.ins C dx (fldN.zip ws)) := by
  cases x with
  | ref r =>
    obtain ⟨a, ha, rfl⟩ := c2
    have hi : (match m[r]? with | some (.ins _) => true | _ => false) = true := hi
    cases hm : m[r]? with
    | none => rw [hm] at hi; cases hi
    | some ob =>
      rw [hm] at hi
      cases ob with
      | ins fs =>
        obtain ⟨E, dx, ws, d1, d2, d3, d4⟩ := c1.obj r a _ ha hm
        cases d1.inj B.at_
        exact ⟨a, dx, ws, rfl, d2⟩
      | _ => cases hi
  | _ => cases hi
theorem q_meth0 {pl : Sem Bool} (B : BkC X.K C) (Cl : CalM X.prog X.w X.K X.mg X.base C mth 1 k f) (hr : Room j X.A) (hk : k ≤ j) (hn : mth ∉ fldN) (ho : QE X W o so)
    (ht : eval (.Call (.Attribute o mth apos) [] [] pos) X.env = (do
      let ov ← eval o X.env
      standAt apos.atName
      let (f, first) ← holding [ov] (getMethod ov mth pl)
      callWith pos f first (backTo pos (starEach [] X.env)) (backToKw pos (keywordEach [] X.env))) := by rfl) :
    QE X W (.Call (.Attribute o mth apos) [] [] pos) (sMethB 1 f so aNil) := by
  obtain ⟨fa, fd, ps, hps, F, hm, hb⟩ := Cl
  refine ⟨pe_imp (pe_meth0 (E := E0) (pl := pl) ho.pe B.cl hm F (hr.mono hk) hb .nil pass0 ht) fun σ H Q ⟨φ, l, m, h1, h2, h3⟩ => ?_⟩
  refine ⟨φ, l, m, h1, h2, (Post.bind (rel := rV X.K) h2 h3).mono ?_⟩
  rintro v H1 ⟨φ1, x, m1, e1, a1, b1, c1, d1⟩
  by_cases hi : isIns m1 x = true
  · rw [if_pos hi] at d1
    obtain ⟨a, dx, ws, rfl, hh⟩ := isIns_at a1 c1 hi B
    refine ⟨a, dx, _, rfl, hh, zip_none hn, ?_⟩
    have d1 : Post X.K (rV X.K) W φ1 l σ H1 (if ([] : List PV).length + 1 = 1 then noex (f [x] m1) else .bad) Q := d1
    rw [if_pos (show ([] : List PV).length + 1 = 1 from rfl)] at d1
    refine ⟨rfl, φ1, m1, [x], a1, ⟨_, _, rfl, c1, rfl⟩, ?_⟩
    cases hf : f [x] m1 with
    | ok y m' => rw [hf] at d1; exact d1
    | ex c fs m' => rw [hf] at d1; exact d1.elim
    | bad => rw [hf] at d1; exact d1.elim
  · rw [if_neg hi] at d1; exact d1.elim
end
def sMake (n : Nat) (f : FS) (sa : SA) : SE := fun l m => (sa l m).bind fun xs m1 => if xs.length + 1 = n then (noex (f (.ref m1.length :: xs) (m1 ++ [.ins []]))).bind fun y m2 => (match y with
  | .non => .ok (.ref m1.length) m2
  | _ => .bad) else .bad
section
variable {X : Cx} {W : XM} {e : Expr} {es : List Expr} {ses : SA} {C : Addr} {x : Str} {n k j : Nat} {f : FS} {p pos : Pos}
theorem RH.made {K : PySem.W.Frag} {H : Hp} {φ : List Addr} {m : MH} {a dx C : Addr} (h : RH K H φ m) (hc : ClsB K C) (n1 : H a = none) (n2 : H dx = none) (ne : dx ≠ a) :
    Ext K φ H (φ ++ [a]) (upd (upd H dx (.own a)) a (.ins C dx [])) ∧ RH K (upd (upd H dx (.own a)) a (.ins C dx [])) (φ ++ [a]) (m ++ [.ins []]) ∧ RV K (upd (upd H dx (.own a)) a (.ins C dx [])) (φ ++ [a]) (.ref m.length) (.ref a) := by
  obtain ⟨e1, r1⟩ := h.newX (u := .own a) n2
  have n3 : upd H dx (.own a) a = none := by rw [upd_ne (Ne.symm ne)]; exact n1
  have e2 : Ext K φ (upd H dx (.own a)) (φ ++ [a]) (upd (upd H dx (.own a)) a (.ins C dx [])) := ⟨⟨[a], rfl⟩, fun b ws w => sqt_upd_new n3 w, fun _ _ _ w => by rw [upd_ne (ne_of_none w n3)]; exact w, fun _ _ w => by rw [upd_ne (ne_of_none w n3)]; exact w, fun _ _ w => by rw [upd_ne (ne_of_none w n3)]; exact w⟩
  exact ⟨e1.trans e2, r1.newO n3 e2 ⟨C, dx, [], hc, by rw [upd_same]; rfl, by decide, rfl⟩, ⟨a, by simp [← h.len], rfl⟩⟩
end
end SM
set_option Elab.async false
set_option linter.all false
set_option maxRecDepth 100000
set_option maxHeartbeats 2000000
namespace SM
open PySem PySem.Spec PyProof.Rows L2
/-- the key's function, run at an item, where the keys are asked for -/
def KeyRun (X : Cx) (pins : List (Addr × Obj)) (σ : L2.St) (H : Hp) (φ : List Addr) (m : MH) (fa : Addr) (g : FS) : Prop :=
  ∀ (pins' : List (Addr × Obj)) (H' : Hp) (φ' : List Addr) (t : Shared) (x : PV) (v : V) (u : Value) (ky : PV), (∀ p ∈ pins, p ∈ pins') → Inv (inn X) pins' σ H' t → Ext X.K φ H φ' H' → RH X.K H' φ' m → RV X.K H' φ' x v → RelV v u → g [x] m = .ok ky m →
    wpAny (model X.prog X.w) X.A.in1.in1 (call (.ref fa) [u]) (EP (inn X) pins' σ (fun v' H2 => ∃ φ2, Ext X.K φ' H' φ2 H2 ∧ RH X.K H2 φ2 m ∧ RV X.K H2 φ2 ky v')) (fun _ _ => False) t
section
variable {X : Cx} {pins : List (Addr × Obj)} {σ : L2.St} {H : Hp} {s : Shared}
theorem key_stepG {fa : Addr} {g : FS} {m : MH} {xs : List PV} {ws : List V} {its : List Value} {φ : List Addr} {D kS : Addr} {e1 : Nat}
    (F : KeyRun X pins σ H φ m fa g) (I : Inv X pins σ H s) (hD : s.heap.objs.size ≤ D) (hS : s.heap.objs.size ≤ kS) (hne : kS ≠ D)
    (hv : RVs X.K H φ xs ws) (rv : Vals ws its) (hL : its.length ≤ sizeLine) (ok : ∀ x ∈ xs, ∃ k, g [x] m = .ok k m) {j : Nat} {u : Value} {t : Shared} (hu : its[j]? = some u) (J : KInv X pins σ H φ m g xs D kS e1 j t) :
    wpAny (model X.prog X.w) X.A.in1.in1 (call (.ref fa) [u]) (fun v t2 => ∃ (kA : Array Value) (e : Nat), t2.heap.get? kS = some (seqObj "list" kA e) ∧ kA.size ≤ its.length ∧ (kA.size = j) ∧
      KInv X pins σ H φ m g xs D kS e1 (j + 1) { t2 with heap := t2.heap.update kS (Obj.mapSeq (·.push v)) }) (fun _ _ => False) t := by
  obtain ⟨H', φ', kv, kA, e, I', nS, nD, ex, hR, hk, hkv, gS, gD⟩ := J
  have hj : j < its.length := (List.getElem?_eq_some_iff.mp hu).1
  have l1 : ws.length = its.length := rv.length
  have l2 : ws.length = xs.length := hv.length
  obtain ⟨x, hx⟩ : ∃ x, xs[j]? = some x := ⟨_, List.getElem?_eq_getElem (by omega)⟩
  obtain ⟨w, hw, rx⟩ := hv.get hx
  obtain ⟨u', hu', rw⟩ := rv.get hw
  obtain rfl : u' = u := by rw [hu] at hu'; exact (Option.some.inj hu').symm
  obtain ⟨ky, hky⟩ := ok x (List.mem_of_getElem? hx)
  have eky : keyOf g m x = ky := by unfold keyOf; rw [hky]
  have hsz : kA.size = j := by
    have a := hk.length
    have b : kv.length = kA.toList.length := hkv.length
    have c : kA.toList.length = kA.size := Array.length_toList
    rw [List.length_map, List.length_take, Nat.min_eq_left (by omega)] at a
    omega
  have I2 : Inv X (pins ++ [(kS, seqObj "list" kA e), (D, seqObj "list" #[] e1)]) σ H' t := I'.pins_of fun p hp => by
    rcases List.mem_append.mp hp with hp | hp
    · exact I'.pin p (List.mem_append_right _ hp)
    · rcases List.mem_cons.mp hp with rfl | hp
      · exact ⟨gS, nS, Nat.ne_of_gt (Nat.lt_of_lt_of_le I.lt hS), I.nofs hS, fun v z => by cases z⟩
      · rcases List.mem_cons.mp hp with rfl | hp
        · exact ⟨gD, nD, Nat.ne_of_gt (Nat.lt_of_lt_of_le I.lt hD), I.nofs hD, fun v z => by cases z⟩
        · cases hp
  refine wpAny_mono (F _ H' φ' t x w u' ky (fun p hp => List.mem_append_left _ hp) (inv_inn I2) ex hR (rx.ext ex) rw hky) (fun v t2 hq => ?_) fun _ _ h => h
  · obtain ⟨y, H2, I3, ry, φ2, x2, r2, rk⟩ := hq
    have I4 : Inv X (pins ++ [(kS, seqObj "list" kA e), (D, seqObj "list" #[] e1)]) σ H2 t2 := inv_out I.ok I3
    obtain ⟨a1, a2, -⟩ := I4.pin (kS, seqObj "list" kA e) (List.mem_append_right _ (List.mem_append_right _ (.head _)))
    obtain ⟨b1, b2, -⟩ := I4.pin (D, seqObj "list" #[] e1) (List.mem_append_right _ (List.mem_append_right _ (.tail _ (.head _))))
    have sb := Heap.SameBut.update t2.heap kS (Obj.mapSeq (·.push v))
    refine ⟨kA, e, a1, by omega, hsz, H2, φ2, kv ++ [y], kA.push v, _, ?_, a2, b2, ex.trans x2, r2, ?_, ?_, get?_update_seq a1 (·.push v), (sb.2 D hne.symm).trans b1⟩
    · exact I4.unpinned.turnedL (t' := t2.toks) (ch := [kS]) (fun b o hb q => (sb.2 b fun z => hb (by rw [z]; exact .head _)).trans q) fun b hb => by
        obtain rfl : b = kS := by simpa using hb
        exact I.fpOk hS a2
    · rw [List.take_add_one, hx, List.map_append]
      refine RVs.append (RVs.ext x2 hk) ?_
      exact ⟨y, [], rfl, by rw [eky]; exact rk, rfl⟩
    · rw [Array.toList_push]
      exact hkv.append (.cons ry .nil)
theorem key_restG {k : Nat} {fa : Addr} {g : FS} {m : MH} {xs : List PV} {ws : List V} {its : List Value} {φ : List Addr} {D kS : Addr} {e1 : Nat} {Q : VK} {t : Shared} {E : Value → Shared → Prop}
    (F : KeyRun X pins σ H φ m fa g) (hr : Room (k + 2) X.A) (I : Inv X pins σ H s) (hD : s.heap.objs.size ≤ D) (hS : s.heap.objs.size ≤ kS) (hne : kS ≠ D)
    (hv : RVs X.K H φ xs ws) (rv : Vals ws its) (hL : its.length ≤ sizeLine) (ok : SortKOk g m xs) (J : KInv X pins σ H φ m g xs D kS e1 0 t)
    (q : ∀ φ' H' vs, Ext X.K φ H φ' H' → RH X.K H' φ' m → RVs X.K H' φ' (sortK g m xs) vs → H' D = none → Q (.ref D) (upd H' D (.lst vs))) :
    wpAny (model X.prog X.w) X.A.in1.in1 (ksk_rest D (.ref fa) false its.toArray e1 (.ref kS)) (fun f t2 => f = .done (.ret .none) ∧ EP X pins σ Q (.ref D) t2) E t := by
  unfold ksk_rest
  refine wpAny_bind (wpAny_rule ?_)
  first
    | rw [List.forIn_toArray]
    | (rw [← Array.forIn_toList]; simp only [List.toList_toArray])
  refine wpAny_bind (ksk_fold (KInv X pins σ H φ m g xs D kS e1) its 0 t J (fun j u t1 hu J1 => ?_) fun t1 J1 => ?_)
  · rw [Nat.zero_add] at J1 ⊢
    refine wpAny_bind (wpAny_attempt (wpAny_mono (key_stepG F I hD hS hne hv rv hL ok.kk hu J1) (fun v t2 hq => ?_) fun _ _ h => h.elim))
    obtain ⟨kA, e, a1, a2, a3, a4⟩ := hq
    try dsimp only
    refine wpAny_bind (listUpdate_at a1 rfl ?_ (Nat.le_trans a2 hL) (Nat.le_trans (Nat.le_of_eq (Array.size_push ..)) (Nat.succ_le_succ (Nat.le_trans a2 hL))))
    exact wpAny_pure ⟨rfl, a4⟩
  · obtain ⟨H', φ', kv, kA, e, I', nS, nD, ex, hR, hk, hkv, gS, gD⟩ := J1
    have l1 : ws.length = its.length := rv.length
    have l2 : ws.length = xs.length := hv.length
    rw [Nat.zero_add, List.take_of_length_le (by omega)] at hk
    obtain ⟨ks, k1, k2, k3⟩ := rvs_dp hR hk ok.ok.rd
    subst k1
    have hkr := each_map_snd (each_reads I' hkv k3)
    rw [k2] at hkr
    have hsz : kA.size = its.length := by
      have a := hk.length
      have b : (ks.map (·.1)).length = kA.toList.length := hkv.length
      have c : kA.toList.length = kA.size := Array.length_toList
      simp only [List.length_map] at a b l1 l2
      omega
    obtain ⟨zs, z1, z2, z4⟩ := zip_keys (m := m) (g := g) (RVs.ext ex hv)
    subst z1
    try dsimp only
    refine wpAny_bind (listItems_at gS rfl ?_)
    have hkS : (t1.heap.hide kS).get? kS = none := Heap.hide_self _ _
    have kp : PySem.W.KeepsBut D (t1.heap.hide kS) t1.heap := fun b o _ e => Heap.of_hide e
    refine PySem.W.keyH_end (κ := PySem.W.dataKind t1.heap ((xs.map (keyOf g m)).map (dOf m))) (h₁ := t1.heap.hide kS) kp hkS gS gD hne (PySem.W.SortsAt.data hkr ok.ok.al ok.ok.so fun d hd => ?_) hsz hL fun h3 tk c k3' n3 => ⟨rfl, ?_⟩
    · obtain ⟨y, hy, rfl⟩ := List.mem_map.mp hd
      have a := ok.ok.dp y hy
      have b := hr.units
      show X.A.units + 1 + 1 + _ < cLine
      omega
    · have ko : PySem.W.KeyedOut false (zs.map (·.2)) its (PySem.W.sortVals (PySem.W.dataKind t1.heap ((xs.map (keyOf g m)).map (dOf m))) false kA.toList its) := ⟨t1.heap, kA.toList, by rw [z2]; exact ok.ok.al, by rw [z2], by rw [z2]; exact hkr⟩
      have ho := vals_each (PySem.W.keyedOut_each (fun z : V × PyData => z.2) ko (each_vals rv))
      have hrv : RVs X.K H' φ' (sortK g m xs) ((zs.mergeSort (PySem.W.dataLe false (·.2))).map (·.1)) := rvs_each (PySem.W.sort_each z4 fun p hp q hq => by
        have h1 := z4.zip p hp
        have h2 := z4.zip q hq
        show PySem.W.dataLe false (fun z : PV × PyData => z.2) p.1 q.1 = PySem.W.dataLe false (fun z : V × PyData => z.2) p.2 q.2
        unfold PySem.W.dataLe PySem.W.sortLe
        dsimp only
        rw [h1.2, h2.2])
      have I5 : Inv X pins σ H' { t1 with heap := h3, toks := tk } := I'.turnedL (t' := tk) (ch := [kS, D]) (fun b o hb e => k3' b o (fun z => hb (by rw [z]; exact .tail _ (.head _))) (by rw [Heap.hide_ne _ (fun z => hb (by rw [z]; exact .head _))]; exact e)) fun b hb => by
        rcases List.mem_cons.mp hb with rfl | hb
        · exact I.fpOk hS nS
        · obtain rfl : b = D := by simpa using hb
          exact I.fpOk hD nD
      refine ⟨.ref D, upd H' D (.lst ((zs.mergeSort (PySem.W.dataLe false (·.2))).map (·.1))), I5.take (t' := tk) (it := D) (fun b o _ e => e) (I.fpOk hD nD) ⟨?_, _, c, ho, n3⟩, rfl, q φ' H' _ ex hR hrv nD⟩
      rw [ho.length]
      have : (PySem.W.sortVals (PySem.W.dataKind t1.heap ((xs.map (keyOf g m)).map (dOf m))) false kA.toList its).length = its.length := PySem.W.sortVals_length false (by rw [Array.length_toList]; exact hsz)
      rw [this]
      exact hL
/-- sorted(xs, key=f), f any function -/
theorem run_sortKG {k : Nat} {fa a : Addr} {g : FS} {m : MH} {xs : List PV} {ws : List V} {φ : List Addr} {Q : VK}
    (F : KeyRun X pins σ H φ m fa g) (hr : Room (k + 2) X.A) (I : Inv X pins σ H s) (hR : RH X.K H φ m) (hs : SqL X.K H a ws) (hv : RVs X.K H φ xs ws) (ok : SortKOk g m xs)
    (q : ∀ φ' H' vs p, Ext X.K φ H φ' H' → RH X.K H' φ' m → RVs X.K H' φ' (sortK g m xs) vs → H' p = none → Q (.ref p) (upd H' p (.lst vs))) :
    wpAny (model X.prog X.w) X.A (call (.builtin "sorted") [.ref a] [(Str.ofString "key", .ref fa)]) (EP X pins σ Q) X.xe s := by
  obtain ⟨its, rv, hl, hz⟩ := I.list hs
  have hil : its.length ≤ sizeLine := by rw [← rv.length]; exact hz
  refine PySem.W.sorted_of_sort hl.isList hil (ksk_s1 _ _) (fun _ => ksk_l1 _ _) fun E' => ?_
  rw [ksk_t1]
  have h1 := PySem.W.copyHeap_at s.heap its
  obtain ⟨e1, ho1⟩ : ∃ e1, ((PySem.W.copyHeap s.heap its).update (s.heap.objs.size + 1) (Obj.mapSeq fun _ => (#[] : Array Value))).get? (s.heap.objs.size + 1) = some (seqObj "list" #[] e1) := ⟨_, get?_update_seq h1 fun _ => #[]⟩
  unfold ksk_tree
  refine wpAny_bind (listItems_at h1 rfl (wpAny_bind (listUpdate_at h1 rfl ?_ (by rw [List.size_toArray]; exact hil) (Nat.zero_le _))))
  refine wpAny_bind (seqEpoch_at ho1 rfl (wpAny_bind (wpAny_newTuple ?_ (by show its.length ≤ _; exact hil))))
  refine wpAny_bind (wpAny_newList ?_ (Nat.zero_le _))
  refine wpAny_holding ?_
  have hcs : s.heap.objs.size + 1 < (PySem.W.copyHeap s.heap its).objs.size := Heap.lt_size h1
  have hus : ((PySem.W.copyHeap s.heap its).update (s.heap.objs.size + 1) (Obj.mapSeq fun _ => (#[] : Array Value))).objs.size = (PySem.W.copyHeap s.heap its).objs.size := Heap.size_update ..
  have hps : (((PySem.W.copyHeap s.heap its).update (s.heap.objs.size + 1) (Obj.mapSeq fun _ => (#[] : Array Value))).push (seqObj "tuple" its.toArray 0)).objs.size = (PySem.W.copyHeap s.heap its).objs.size + 1 := by rw [size_push', hus]
  refine key_restG F hr I (Nat.le_succ _) (kS := _) (by show s.heap.objs.size ≤ (Heap.push _ (seqObj "tuple" its.toArray 0)).objs.size; rw [hps]; omega) (by show (Heap.push _ (seqObj "tuple" its.toArray 0)).objs.size ≠ _; rw [hps]; omega) hv rv hil ok
    ⟨H, φ, [], #[], 0, I.kept (t' := s.toks) (fun b o e => PySem.W.sorting_copy_old e), I.hok.fresh ?_, I.hok.fresh (Nat.le_succ _), .refl, hR, rfl, .nil, Heap.get?_push_size _ rfl, Heap.get?_push_of_some _ (Heap.get?_push_of_some _ ho1)⟩ fun φ' H' vs a b c d => q φ' H' vs _ a b c d
  show s.heap.objs.size ≤ (Heap.push _ (seqObj "tuple" its.toArray 0)).objs.size
  rw [hps]
  omega
end
def gLam (n N : Nat) (se : SE) : FS := fun xs m => if xs.length = n then se (xs.map some ++ List.replicate (N - n) none) m else .bad
theorem lam_keyRun {X : Cx} {pins : List (Addr × Obj)} {σ : L2.St} {H : Hp} {φ : List Addr} {m : MH} {f c' : Addr} {pm ctv : Value} {params : Arguments} {body : Expr} {scope : Scope} {N ps : List Str} {k : Nat} {se : SE} {qual : Str} {o : Obj}
    (hps : ps.length = 1) (S : FnScope N ps scope) (hr : Room (k + 3) X.A) (hc : X.calm = true)
    (ho : o = PySem.W.kla_obj "<lambda>" qual params body scope [] pm c' ctv) (hpin : (f, o) ∈ pins) (hco : H c' = some (LamX.CodeO c' qual))
    (hbind : ∀ u : Value, bindArgs (PySem.W.kla_fn "<lambda>" qual params body scope [] pm (.ref c') ctv) ⟨[u], []⟩ = pure (ps.zip [u]))
    (hbody : ∀ (A : Around) (outer : List Env) (s : Shared) (H : Hp), Room k (A.deeper (envOfC qual scope s.heap.objs.size f (.ref c'))) → QE (cxOf CX0 X.prog X.w X.K X.mg X.base N qual scope f (.ref c') A outer s H E0) W0 body se) :
    KeyRun X pins σ H φ m f (gLam 1 N.length se) := by
  intro pins' H' φ' t x v u ky hsub I ex hR rx ru hky
  have I1 := I
  obtain ⟨hget, -⟩ := I.pin (f, o) (List.mem_append_right _ (hsub _ hpin))
  have hget : t.heap.get? f = some (PySem.W.kla_obj "<lambda>" qual params body scope [] pm c' ctv) := by rw [← ho]; exact hget
  have hcd := ex.cod _ _ hco
  obtain ⟨⟨oc, vs, tk, hoc, hdc, hvc⟩, _, _⟩ := I.hok c' _ hcd
  have e0 := I.env0
  have lim : t.heap.NoLimit := e0.mod.nolimit.keeps fun b o e => (e0.bs b o e).1
  have hkind : ∀ y ∈ ps.zip [u], scope.names.lookup y.1 = some .local ∨ (scope.names.lookup y.1 = some .cell ∧ ((cellsFrom (t.heap.objs.size + 1) scope.names []).lookup y.1).isSome = true) := fun ⟨n, w⟩ hy => by
    rcases S.par n (List.of_mem_zip hy).1 with q | q
    · exact .inl q
    · exact .inr ⟨q, PySem.W.cellsFrom_some _ _ _ (.inl q)⟩
  have hle : ps.length ≤ N.length := by
    have := congrArg List.length S.pre
    rw [List.length_take] at this
    omega
  have hk2 : gLam 1 N.length se [x] m = se ([x].map some ++ List.replicate (N.length - 1) none) m := if_pos rfl
  rw [hk2] at hky
  have main : codeAny (model X.prog X.w) (inn X).A (.call (.ref f) ⟨[u], []⟩) (CR CX0 (inn X).stack X.prog X.w H' t (fun v' H2 => ∃ φ2, Ext X.K φ' H' φ2 H2 ∧ RH X.K H2 φ2 m ∧ RV X.K H2 φ2 ky v') E0) t := by
    refine PySem.W.kla_callFunE hr.in1.in1.depth hget rfl S.co S.gen rfl ⟨c', oc, vs, tk, rfl, hoc, hdc, hvc⟩ ?_
    rw [hbind]
    refine wpAny_pure (wpAny_newFunctionEnv_cells S.kind hkind fun env he s1 y => ?_)
    subst he
    refine ⟨lim.keeps y.toInCall.keep, ?_⟩
    have J : Inv (cxOf CX0 X.prog X.w X.K X.mg X.base N qual scope f (.ref c') (inn X).A (inn X).stack t H' E0) [] (L2.start N [v]) H' s1 := inv_start S (I.ok.hd hc) e0 (show [v].length = ps.length from hps.symm) (.cons ru .nil) y
    have bod := hbody (inn X).A (inn X).stack t H' (hr.in1.in1.deeper _)
    refine PySem.W.kla_codeExpr (wpAny_mono (bod.pe.run [] s1 (L2.start N [v]) H' (fun v' H2 => ∃ φ2, Ext X.K φ' H' φ2 H2 ∧ RH X.K H2 φ2 m ∧ RV X.K H2 φ2 ky v') J ⟨φ', _, m, hR, rl_start (n := 1) (xs := [x]) (by omega) (show RVs X.K H' φ' [x] [v] from ⟨v, [], rfl, rx, rfl⟩) rfl, ?_⟩) (fun v' s' hq => ?_) fun e s' hs => hs)
    · rw [hky]
      exact fun φ2 H2 v2 x2 a2 r2 => ⟨φ2, x2, a2, r2⟩
    · obtain ⟨w', H2, J', rv, q⟩ := hq
      exact ⟨w', H2, J'.os, J'.bare, J'.base, J'.hok, rv, q⟩
  refine wpAny_call (codeAny_mono main fun r s' hq => ?_)
  cases r with
  | error e => exact hq
  | ok fl =>
    cases fl with
    | ret u => exact I.after hq
    | next => exact False.elim hq
    | brk => exact False.elim hq
    | cont => exact False.elim hq
def tblsOf (m : MH) : List (Addr × Str) := m.filterMap fun o => match o with
  | .tbl P q => some (P, q)
  | _ => none
theorem tbls_mem {m : MH} {p : Addr × Str} (h : p ∈ tblsOf m) : ∃ n : Nat, m[n]? = some (.tbl p.1 p.2) := by
  obtain ⟨o, ho, e⟩ := List.mem_filterMap.mp h
  obtain ⟨n, hn⟩ := List.getElem?_of_mem ho
  cases o with
  | tbl P q => cases e; exact ⟨n, hn⟩
  | _ => cases e
theorem mem_tbls {m : MH} {n : Nat} {P : Addr} {q : Str} (h : m[n]? = some (.tbl P q)) : (P, q) ∈ tblsOf m := List.mem_filterMap.mpr ⟨_, List.mem_of_getElem? h, rfl⟩
theorem RH.tbl {K : PySem.W.Frag} {H : Hp} {φ : List Addr} {m : MH} (h : RH K H φ m) {n : Nat} {P : Addr} {q : Str} (e : m[n]? = some (.tbl P q)) : φ[n]? = some P ∧ LamX.TabS H P q := by
  have hl := (List.getElem?_eq_some_iff.mp e).1
  have ha : φ[n]? = some (φ[n]'(by rw [h.len]; exact hl)) := List.getElem?_eq_getElem _
  obtain ⟨e1, t⟩ := h.obj n _ _ ha e
  exact ⟨by rw [ha, e1], t⟩
theorem RH.tabs {K : PySem.W.Frag} {H : Hp} {φ : List Addr} {m : MH} (h : RH K H φ m) : LamX.Tabs (tblsOf m) H := fun p hp => let ⟨n, e⟩ := tbls_mem hp; (h.tbl e).2
theorem RH.tbl_one {K : PySem.W.Frag} {H : Hp} {φ : List Addr} {m : MH} (h : RH K H φ m) {n : Nat} {P : Addr} {q : Str} (e : m[n]? = some (.tbl P q)) : ∀ p ∈ tblsOf m, p.1 = P → p.2 = q := fun p hp ep => by
  obtain ⟨k, ek⟩ := tbls_mem hp
  have h1 := (h.tbl e).1
  have h2 := (h.tbl ek).1
  rw [ep] at h2
  have := h.nd n k P _ _ h1 h2 e ek rfl rfl
  subst this
  rw [e] at ek
  cases ek
  rfl
theorem RH.extN {K : PySem.W.Frag} {H H' : Hp} {φ : List Addr} {m : MH} (h : RH K H φ m) (e : LamX.ExtN H H') (t : LamX.Tabs (tblsOf m) H') : Ext K φ H φ H' ∧ RH K H' φ m := by
  have st : ∀ {a : Addr} {vs : List V}, SqT K H a vs → SqT K H' a vs := fun {a vs} w => by
    rcases w with (w | ⟨o, w⟩) | w
    · exact .inl (.inl (e _ _ w fun ps z => by cases z))
    · exact .inl (.inr ⟨o, e _ _ w fun ps z => by cases z⟩)
    · exact .inr w
  have sf : ∀ {a : Addr} {vs : List V}, SqF K H a vs → SqF K H' a vs := fun {a vs} w => by
    rcases w with ⟨o, w⟩ | w
    · exact .inl ⟨o, e _ _ w fun ps z => by cases z⟩
    · exact .inr w
  have ex : Ext K φ H φ H' := ⟨⟨[], by simp⟩, fun a vs w => st w, fun a od ws w => e _ _ w fun ps z => (by cases z), fun a fs w => e _ _ w fun ps z => (by cases z), fun a q w => e _ _ w LamX.codeO_ne⟩
  refine ⟨ex, h.len, h.nd, fun n a o h1 h2 => ?_⟩
  have q := h.obj n a o h1 h2
  cases o with
  | lst ys => obtain ⟨ws, q1, q2⟩ := q; exact ⟨ws, e _ _ q1 fun ps z => (by cases z), q2.ext ex⟩
  | frz ys => obtain ⟨ws, q1, q2⟩ := q; exact ⟨ws, sf q1, q2.ext ex⟩
  | dct ys => obtain ⟨ws, q1, q2⟩ := q; exact ⟨ws, e _ _ q1 fun ps z => (by cases z), q2.ext ex⟩
  | dck ys => obtain ⟨ws, q1, q2⟩ := q; exact ⟨ws, e _ _ q1 fun ps z => (by cases z), q2.ext ex⟩
  | frk ys => obtain ⟨od, ws, q1, q2⟩ := q; exact ⟨od, ws, e _ _ q1 fun ps z => (by cases z), q2.ext ex⟩
  | dcs ys => obtain ⟨ws, q1, q2⟩ := q; exact ⟨ws, e _ _ q1 fun ps z => (by cases z), q2.ext ex⟩
  | frs ys => obtain ⟨od, ws, q1, q2⟩ := q; exact ⟨od, ws, e _ _ q1 fun ps z => (by cases z), q2.ext ex⟩
  | ins ys => obtain ⟨C, dx, ws, c1, q1, q3, q2⟩ := q; exact ⟨C, dx, ws, c1, e _ _ q1 fun ps z => (by cases z), q3, q2.ext ex⟩
  | tbl P q0 => obtain ⟨rfl, _⟩ := q; exact ⟨rfl, t _ (mem_tbls h2)⟩
open Classical in
/-- sorted(xs, key=lambda): the table of the maker's code object stands in the second place -/
noncomputable def sortLv (P : Addr) (q : Str) (g : FS) : List PV → MH → R PV
  | [.ref n], m => match seq? m n with
    | some xs => if SortKOk g m xs ∧ m[1]? = some (.tbl P q) then .ok (.ref m.length) (m ++ [.lst (sortK g m xs)]) else .bad
    | none => .bad
  | _, _ => .bad
noncomputable def sSortL (P : Addr) (q : Str) (g : FS) (sa : SA) : SE := fun l m => (sa l m).bind fun xs m1 => sortLv P q g xs m1
theorem fs_sub {X : Cx} (hst : X.stack = X.env :: X.outer) {f : Addr} (h : f ∈ X.fs) : f ∈ frs X.stack := by
  obtain ⟨e, he, q⟩ := List.mem_filterMap.mp h
  rw [hst]
  exact List.mem_filterMap.mpr ⟨e, List.mem_cons_of_mem _ he, q⟩
theorem sql_extN {K : PySem.W.Frag} {H H' : Hp} {a : Addr} {vs : List V} (e : LamX.ExtN H H') (w : SqL K H a vs) : SqL K H' a vs := by
  rcases w with (w | ⟨o, w⟩) | w
  · exact .inl (.inl (e _ _ w fun ps z => by cases z))
  · exact .inl (.inr ⟨o, e _ _ w fun ps z => by cases z⟩)
  · exact .inr w
section
variable {X : Cx} {W : XM} {e body : Expr} {ses : SA} {se : SE} {p kp pos lpos : Pos} {k j : Nat} {c P : Addr} {q : Str} {params : Arguments} {scope : Scope} {N ps : List Str}
theorem q_sortL (TB : LamX.TabB X.base X.mg c P) (hcode : X.env.code = .ref c) (hq : q = X.env.qual ++ "<lambda>") (hst : X.stack = X.env :: X.outer) (hps : ps.length = 1) (S : FnScope N ps scope) (hr : Room (k + 3) X.A) (hc : X.calm = true) (hg : Gl X (Str.ofString "sorted")) (hm : X.mg (Str.ofString "sorted") = none) (ha : QA X W [e] ses)
    (hbind : ∀ (u pm ctv : Value) (c' : Addr), bindArgs (PySem.W.kla_fn "<lambda>" q params body scope [] pm (.ref c') ctv) ⟨[u], []⟩ = pure (ps.zip [u]))
    (hbody : ∀ (A : Around) (outer : List Env) (s : Shared) (H : Hp) (f c' : Addr), Room k (A.deeper (envOfC q scope s.heap.objs.size f (.ref c'))) → QE (cxOf CX0 X.prog X.w X.K X.mg X.base N q scope f (.ref c') A outer s H E0) W0 body se)
    (hclo : cloFrom X.env.cells scope.names [] = [] := by rfl) (hdef : defaultsOf params X.env = ([], []) := by rfl) (hfree : ∀ y ∈ scope.names, y.2 ≠ .free := by decide)
    (hv : bootBuiltins (Str.ofString "sorted") = some (.builtin "sorted") := by rfl) (hn : (Str.ofString "sorted") ≠ "__name__" := by decide) (hd2 : (Str.ofString "sorted" == ("__debug__" : Str)) = false := by decide)
    (he : backTo pos (starEach [e] X.env) = (false, eval e X.env) :: backTo pos (starEach [] X.env) := by rfl) (hpl : (backTo pos (starEach [e] X.env)).any (·.1) = false := by rfl)
    (hall : (backToKw pos (keywordEach [⟨some (Str.ofString "key"), .Lambda params body scope lpos, kp⟩] X.env)).all (·.1.isSome) = true := by rfl) (hnone : (backToKw pos (keywordEach [⟨some (Str.ofString "key"), .Lambda params body scope lpos, kp⟩] X.env)).any (·.1.isNone) = false := by rfl)
    (hks : (backToKw pos (keywordEach [⟨some (Str.ofString "key"), .Lambda params body scope lpos, kp⟩] X.env)).filterMap (·.1) = [Str.ofString "key"] := by rfl) :
    QE X W (.Call (.Name (Str.ofString "sorted") p) [e] [⟨some (Str.ofString "key"), .Lambda params body scope lpos, kp⟩] pos) (sSortL P q (gLam 1 N.length se) ses) := by
  subst hq
  refine ⟨⟨fun pins s σ H Q I h => ?_⟩⟩
  refine wpAny_Call_Name_kw (ld_blt I hg hm hv ?_ hn hd2)
  refine PyProof.Rows.callWith_kw (thn (ha.pa.run pos pins s σ H _ I (oneA h)) fun us s1 ⟨vs, H1, I1, r1, φ1, m1, xs, l1, c1, c2, c3⟩ => ?_) he hpl hall hnone
  unfold sortLv at c3
  split at c3
  · rename_i n
    cases hsq : seq? m1 n with
    | none => rw [hsq] at c3; exact c3.elim
    | some ys =>
      rw [hsq] at c3
      dsimp only at c3
      by_cases ok : SortKOk (gLam 1 N.length se) m1 ys ∧ m1[1]? = some (.tbl P (X.env.qual ++ "<lambda>"))
      · rw [if_pos ok] at c3
        obtain ⟨ok, htb⟩ := ok
        obtain ⟨v, rfl, rx⟩ := c2.one
        obtain ⟨a, ws, rfl, q1, q2⟩ := c1.seq rx hsq
        obtain rfl := Vals.ref1 r1
        show wpAny _ _ (evalAll ((do let v ← eval (.Lambda params body scope lpos) X.env; standAt pos; pure v) :: [])) _ _ s1
        refine wpAny_evalAll_cons (wpAny_bind (LamX.lam_make2 I1 TB hcode (mem_tbls htb) (c1.tbl_one htb) c1.tabs hdef (fun y hy z => absurd z (hfree y hy)) fun f c' pm ctv H2 s2 I2 eN hT2 hget hnf hfr hco => wpAny_bind (wpAny_standAt (wpAny_pure ?_))))
        refine wpAny_pure ?_
        rw [hks]
        show wpAny _ _ (call (.builtin "sorted") [.ref a] [(Str.ofString "key", .ref f)]) _ _ s2
        obtain ⟨eX, c2'⟩ := c1.extN eN hT2
        rw [hclo] at hget
        have hl1 : f ≠ X.env.locals := fun z => by
          obtain ⟨_, ⟨o3, es3, ep3, g3, d3, _⟩, _⟩ := I2.loc
          rw [← z, hget] at g3
          cases g3
          cases d3
        have I3 : Inv X (pins ++ [(f, PySem.W.kla_obj "<lambda>" (X.env.qual ++ "<lambda>") params body scope [] pm c' ctv)]) σ H2 s2 := I2.pins_of fun pp hp => by
          rcases List.mem_append.mp hp with hp | hp
          · exact I2.pin pp (List.mem_append_right _ hp)
          · obtain rfl := List.mem_singleton.mp hp
            exact ⟨hget, hnf, hl1, fun z => hfr (fs_sub hst z), fun v z => by cases z⟩
        have ok2 : SortKOk (gLam 1 N.length se) m1 ys := ok
        refine wpAny_mono (run_sortKG (pins := pins ++ [(f, PySem.W.kla_obj "<lambda>" (X.env.qual ++ "<lambda>") params body scope [] pm c' ctv)]) (k := k + 1) (Q := Q)
          (lam_keyRun (k := k) hps S hr hc rfl (List.mem_append_right _ List.mem_cons_self) hco (fun u => hbind u pm ctv c') (fun A outer s H r => hbody A outer s H f c' r)) hr I3 c2' (sql_extN eN q1) (q2.ext eX) ok2 fun φ' H' vs2 pp x1 x2 x3 x4 => ?_) (fun u s' hq => ?_) fun _ _ h => h
        · obtain ⟨y1, y2, y3⟩ := x2.newL x4 x3
          exact c3 _ _ _ ((eX.trans x1).trans y1) y2 y3
        · obtain ⟨v, H', J, rv, qq⟩ := hq
          exact ⟨v, H', J.unpinned, rv, qq⟩
      · rw [if_neg ok] at c3; exact c3.elim
  · exact c3.elim
end
end SM
set_option Elab.async false
set_option linter.all false
set_option maxRecDepth 100000
set_option maxHeartbeats 2000000
namespace SM
open PySem PySem.Spec PyProof.Rows L2
/-- what a turn of the comprehension leaves: the dict at D bears one more entry, its key a new tuple -/
def PutT (H5 : Hp) (D : Addr) (y z : V) (Nx : Hp → Prop) : Prop := ∃ (b : Addr) (kvs : List (List Key × V)) (k : List Key), y = .ref b ∧ H5 b = some (.tup (k.map kV)) ∧ H5 D = some (.dT kvs) ∧ kvs.length < sizeLine ∧ Nx (upd H5 D (.dT (putK kvs k z)))
def TurnT (J : It) (g : TG) (tt : TT) (tk tv : TE) (σw : L2.St) (vs : List Nat) (D : Addr) (Qd : Hp → Prop) (W : Nat → Nat → Hp → Prop) : Prop :=
  ∀ i m H, W i m H → (J.stop i H ∧ Qd H) ∨ (J.go i H ∧ ∃ Nx : Hp → Prop, (∀ H', Nx H' → ∃ m', m' < m ∧ W (i + 1) m' H') ∧
    ∀ x H', J.yld i H x H' → g x σw H' fun σ2 H2 => wipe σ2 vs = σw ∧ tt σ2 H2 fun b H3 => if b = true then tk σ2 H3 fun y H4 => tv σ2 H4 fun z H5 => PutT H5 D y z Nx else Nx H3)
def tDcT (wi : TI) (g : TG) (tt : TT) (tk tv : TE) (vs : List Nat) : TE := fun σ H Q => wi σ H fun J H1 => ∀ D, H1 D = none → ∃ W : Nat → Nat → Hp → Prop, (∃ m, W 0 m (upd H1 D (.dT []))) ∧ TurnT J g tt tk tv (wipe σ vs) vs D (fun H => Q (.ref D) H) W
section
variable {X : Cx}
theorem setT {pins : List (Addr × Obj)} {σ : L2.St} {H : Hp} {s : Shared} {E : Value → Shared → Prop} {D : Addr} {y z : V} {u r : Value} {Nx : Hp → Prop} {Q : Unit → Shared → Prop}
    (hu : X.A.units < cLine) (I : Inv X pins σ H s) (ry : RelV y u) (rz : RelV z r) (p : PutT H D y z Nx)
    (h : ∀ H' s', Inv X pins σ H' s' → Nx H' → Q () s') : wpAny (model X.prog X.w) X.A (dictSet D u r) Q E s := by
  obtain ⟨b, kvs, k, rfl, eb, eD, hl, nx⟩ := p
  cases (show u = Value.ref b from ry)
  obtain ⟨z1, hd, xs, rel, dd⟩ := dt_of I.hok eD
  have lx : xs.length ≤ sizeLine := by rw [← Paired.length rel]; exact z1
  have lp : (putK kvs k z).length ≤ sizeLine := by have := length_putK kvs k z; omega
  refine wpAny_dictSet_heap (hsz := lx) hu (key_of I.hok eb) dd fun h' dd' sb => h _ _ ?_ nx
  obtain ⟨q, es, ep, g1, g2, g3, g4, _, g5⟩ := dd'
  refine d_write I (by rw [eD]; exact True.intro) sb ⟨q, g1⟩ ⟨lp, hd, _, (rel.put k eb rz).keeps fun c ys ec => ?_, q, es, ep, g1, g2, g3, g4, g5⟩
  rw [upd_ne (ne_of ec eD fun w => nomatch w)]
  exact ec
theorem dcT_core {pins : List (Addr × Obj)} {s : Shared} {σ : L2.St} {H : Hp} {Q : VK} {kx vx tg iter : Expr} {ifs : List Expr} {scope : Scope} {own : List (Str × Nat)} {pos pos' : Pos} {wi : TI} {g : TG} {tt : TT} {tk tv : TE} {kr : Nat} {use : Option (Value → Sem Unit)} {Qf : Value → Shared → Prop}
    (hc : X.calm = true) (hN : X.N.Nodup) (hr : Room kr X.A) (I : Inv X pins σ H s) (hi : PI X tg iter wi) (ok : BlkOk X.N X.env.scope scope own)
    (hg : ∀ (s : Shared) (H : Hp) (C : Addr) (cl : List (Str × Addr)) (fp : List Addr), PG (X.blk s H scope (compEnvC scope cl C X.env) fp) tg g)
    (ht : ∀ (s : Shared) (H : Hp) (C : Addr) (cl : List (Str × Addr)) (fp : List Addr), PTs (X.blk s H scope (compEnvC scope cl C X.env) fp) ifs tt)
    (hk : ∀ (s : Shared) (H : Hp) (C : Addr) (cl : List (Str × Addr)) (fp : List Addr), PE (X.blk s H scope (compEnvC scope cl C X.env) fp) kx tk)
    (he : ∀ (s : Shared) (H : Hp) (C : Addr) (cl : List (Str × Addr)) (fp : List Addr), PE (X.blk s H scope (compEnvC scope cl C X.env) fp) vx tv)
    (hs : ∀ x, foldedSetIterable iter X.env x = pure x) (h : tDcT wi g tt tk tv (own.map (·.2)) σ H Q)
    (hRR : ∀ D C s' m H', Inv X pins σ H' s' → Q (.ref D) H' → s'.heap.Ns C m → FpOk X pins H' C → compPost (model X.prog X.w) X.A X.xe use Qf (.ref D) C (.ok .next) s') :
    wpAny (model X.prog X.w) X.A (comprehension (.DictComp kx vx [⟨tg, iter, ifs, 0⟩] scope pos) scope X.env pos' newDict false (eval iter X.env) use) Qf X.xe s := by
  have fr : ∀ y ∈ scope.names, y.2 = .free → ∃ c, X.env.cells.lookup y.1 = some c := fun y hy e => (ok.free y hy e).elim (fun k => I.ok.has _ (.inl k)) fun k => I.ok.has _ (.inr k)
  refine wpAny_comprehension_free (use := use) rfl hs (closure_ok fr) ok.kind (fun y hy e => by rw [ok.uniq y hy, e]) (thn (hi.run pins s σ H _ I h) fun xv s1 hx => thn hx fun itv s2 hy => ?_)
  obtain ⟨it, fp, tn, J, H2, rfl, I2, T, t2, f2, q⟩ := hy
  refine wpAny_newObj_type (newEnv_comp ?_)
  -- the dict, new
  obtain ⟨D, hD⟩ : ∃ D, D = s2.heap.objs.size := ⟨_, rfl⟩
  rw [← hD]
  obtain ⟨W, ⟨m0, w0⟩, turn⟩ := q D (I2.hok.fresh (Nat.le_of_eq hD.symm))
  obtain ⟨s3, hs3⟩ : ∃ s3 : Shared, s3 = { s2 with heap := s2.heap.push { cls := .type "dict", data := .dict #[] } } := ⟨_, rfl⟩
  rw [← hs3]
  have hp3 : s3.heap = s2.heap.push { cls := .type "dict", data := .dict #[] } := by rw [hs3]
  have I3 : Inv X pins σ (upd H2 D (.dT [])) s3 := by
    rw [hs3]
    refine I2.laid (t' := s2.toks) (fun b o z => Heap.get?_push_of_some _ z) (Nat.le_of_eq hD.symm) ?_
    rw [hD]
    exact dt_empty s2.heap I2.big
  have f3 : ∀ b ∈ fp, FpOk X pins (upd H2 D (.dT [])) b ∧ b < s3.heap.objs.size := fun b hb => by
    obtain ⟨o, z, _⟩ := T.obj _ _ t2 b hb
    have lt := Heap.lt_size z
    have nD : b ≠ D := by rw [hD]; exact Nat.ne_of_lt lt
    exact ⟨⟨by rw [upd_ne nD]; exact (f2 b hb).1, (f2 b hb).2⟩, by rw [hp3, Heap.size_push]; exact Nat.lt_succ_of_lt lt⟩
  have t3 : tn 0 s3.heap := T.keep _ _ _ t2 fun b _ o z => by rw [hp3]; exact Heap.get?_push_of_some _ z
  obtain ⟨H3, hH3⟩ : ∃ H3, H3 = upd H2 D (.dT []) := ⟨_, rfl⟩
  rw [← hH3] at I3 f3 w0
  have I4 := block_start I3 ok hN f3
  have none3 : ∀ b ∈ fp, H3 b = none := fun b hb => (f3 b hb).1.1
  obtain ⟨ce, hce⟩ : ∃ ce, ce = compEnvC scope (cellsFrom (s3.heap.objs.size + 1) scope.names (cloFrom X.env.cells scope.names [])) s3.heap.objs.size X.env := ⟨_, rfl⟩
  have cL : ce.locals = s3.heap.objs.size := by rw [hce]; rfl
  have pg := hg s3 H3 s3.heap.objs.size (cellsFrom (s3.heap.objs.size + 1) scope.names (cloFrom X.env.cells scope.names [])) fp
  have pt := ht s3 H3 s3.heap.objs.size (cellsFrom (s3.heap.objs.size + 1) scope.names (cloFrom X.env.cells scope.names [])) fp
  have pk := hk s3 H3 s3.heap.objs.size (cellsFrom (s3.heap.objs.size + 1) scope.names (cloFrom X.env.cells scope.names [])) fp
  have pv := he s3 H3 s3.heap.objs.size (cellsFrom (s3.heap.objs.size + 1) scope.names (cloFrom X.env.cells scope.names [])) fp
  rw [← hce] at pg pt pk pv I4
  obtain ⟨B, hB⟩ : ∃ B, B = X.blk s3 H3 scope ce fp := ⟨_, rfl⟩
  show codeAny _ _ (.compStart (.DictComp kx vx [⟨tg, iter, ifs, 0⟩] scope pos) 0 (.ref it) (.ref D) (compEnvC scope (cellsFrom (s3.heap.objs.size + 1) scope.names (cloFrom X.env.cells scope.names [])) s3.heap.objs.size X.env)) (compPost (model X.prog X.w) X.A X.xe use Qf (.ref D) s3.heap.objs.size) { s3 with heap := pushCells (s3.heap.push { cls := .type "dict", data := .dict #[] }) scope.names }
  rw [← hce]
  obtain ⟨s4, hs4⟩ : ∃ s4 : Shared, s4 = { s3 with heap := pushCells (s3.heap.push { cls := .type "dict", data := .dict #[] }) scope.names } := ⟨_, rfl⟩
  rw [← hs4] at I4 ⊢
  have t4 : tn 0 s4.heap := T.keep _ _ _ t3 fun b _ o z => by rw [hs4]; exact pushCells_keeps _ _ _ _ (Heap.get?_push_of_some _ z)
  rw [← hB] at pg pt pk pv I4
  have bX : B.prog = X.prog ∧ B.w = X.w ∧ B.K = X.K ∧ B.mg = X.mg := by rw [hB]; exact ⟨rfl, rfl, rfl, rfl⟩
  have still : ∀ {σ' : L2.St} {H' : Hp} {s' : Shared}, Inv B [] σ' H' s' → (∀ b ∈ fp, H' b = none) → ∀ b ∈ fp, FpOk B [] H' b := fun {σ' H' s'} I' hn b hb => by
    subst hB
    exact ⟨hn b hb, (I'.ok.exf b hb).1, I'.ok.exfs b hb, .inl hb, fun x c z => (I'.ok.exf b hb).2 x c z, fun p hp => absurd (show p ∈ ([] : List (Addr × Obj)) ++ [] from hp) (by simp)⟩
  refine codeAny_compStart_dict ?_ (T.self X.A 0 _ _ _ t4 ?_)
  all_goals
    refine compLoop_anyD (fun n s' => ∃ i H', Inv B [] (wipe σ (own.map (·.2))) H' s' ∧ tn i s'.heap ∧ (∀ b ∈ fp, H' b = none) ∧ W i n H') ?_ m0 ⟨0, H3, I4, t4, none3, w0⟩
    rintro n s5 ⟨i, H5, I5, t5, n5, w5⟩
    rcases turn i n H5 w5 with ⟨stop, fin⟩ | ⟨go, Nx, hNx, step⟩
    · subst hB
      refine thnF (T.done (X.blk s3 H3 scope ce fp) rfl rfl rfl hc i [] s5 _ H5 (fun _ _ => False) I5 (still I5 n5) t5 stop) fun r s6 ⟨hr, I6⟩ => ?_
      subst hr
      have I7 : Inv X pins σ H5 s6 := I3.call' (ch := fp) I6.os I6.base I6.hok I6.bare fun b hb => ⟨(f3 b hb).1.2.2.2.1, (f3 b hb).1.2.1, (f3 b hb).1.2.2.2.2.1, (f3 b hb).1.2.2.2.2.2⟩
      have nL : H5 s3.heap.objs.size = none := by
        have z : H5 ce.locals = none := I6.free
        rwa [cL] at z
      obtain ⟨mm, hns, _⟩ := I6.loc
      have hns : s6.heap.Ns ce.locals mm := hns
      rw [cL] at hns
      exact hRR D s3.heap.objs.size s6 mm H5 I7 fin hns (I3.fpOk (Nat.le_refl _) nL)
    · subst hB
      refine thnF (T.item (X.blk s3 H3 scope ce fp) rfl rfl rfl hc i [] s5 _ H5 (fun _ _ => False) I5 (still I5 n5) t5 go) fun r s6 ⟨u, hr, h6⟩ => ?_
      subst hr
      refine thnF h6 fun _ s7 ⟨x, H7, I7, r7, y7, t7, n7⟩ => ?_
      refine thnF (pg.run _ s7 _ H7 x u _ (I7.pinned (still I7 n7) (T.obj _ _ t7)) r7 (step x H7 y7)) fun _ s8 ⟨σ8, H8, I8, hw8, q8⟩ => ?_
      refine thnF (pt.run _ s8 σ8 H8 _ I8 q8) fun b s9 ⟨H9, I9, q9⟩ => ?_
      have close : ∀ {s' : Shared} {H' : Hp}, Inv (X.blk s3 H3 scope ce fp) ([] ++ pinsAt fp s7.heap) σ8 H' s' → Nx H' → ∃ m, m < n ∧ ∃ i H', Inv (X.blk s3 H3 scope ce fp) [] (wipe σ (own.map (·.2))) H' s' ∧ tn i s'.heap ∧ (∀ b ∈ fp, H' b = none) ∧ W i m H' := fun {s' H'} I' nx => by
        obtain ⟨m', hm, w'⟩ := hNx H' nx
        have at7 : ∀ b ∈ fp, ∀ o, s7.heap.get? b = some o → s'.heap.get? b = some o ∧ H' b = none := fun b hb o z => ⟨(I'.pin (b, o) (List.mem_append_right _ (List.mem_append_right _ (mem_pinsAt hb z)))).1, (I'.pin (b, o) (List.mem_append_right _ (List.mem_append_right _ (mem_pinsAt hb z)))).2.1⟩
        have hl : (wipe σ (own.map (·.2))).length = σ8.length := by rw [← hw8, wipe_length]
        refine ⟨m', hm, i + 1, H', (I'.unpinned (pins := [])).weak hl (fun j v z => by rw [← hw8] at z; exact (wipe_some z).1), T.keep _ _ _ t7 fun b hb o z => (at7 b hb o z).1, fun b hb => ?_, w'⟩
        obtain ⟨o, z, _⟩ := T.obj _ _ t7 b hb
        exact (at7 b hb o z).2
      cases b with
      | false =>
        rw [if_neg Bool.false_ne_true] at q9
        rw [if_neg Bool.false_ne_true]
        exact close I9 q9
      | true =>
        rw [if_pos rfl] at q9
        rw [if_pos rfl]
        refine thnF (pk.run _ s9 σ8 H9 _ I9 q9) fun ku s10 ⟨yk, H10, I10, r10, q10⟩ => ?_
        refine thnF (pv.run _ s10 σ8 H10 _ I10 q10) fun vu s11 ⟨yv, H11, I11, r11, put⟩ => ?_
        exact setT (X := X.blk s3 H3 scope ce fp) (Nat.lt_of_le_of_lt (Nat.le_add_right _ _) hr.units) I11 r10 r11 put fun H12 s12 I12 nx => close I12 nx
theorem ps_setDcT {kx vx tg iter : Expr} {ifs : List Expr} {scope : Scope} {own : List (Str × Nat)} {pos : Pos} {wi : TI} {g : TG} {tt : TT} {tk tv : TE} {kr : Nat} {i : Nat} {y : Str} {py spos : Pos} (hc : X.calm = true) (hN : X.N.Nodup) (hr : Room kr X.A) (hy : X.N[i]? = some y) (hyl : X.env.scope.names.lookup y = some .local)
    (hsw : swapsWith (.DictComp kx vx [⟨tg, iter, ifs, 0⟩] scope pos) (some (.Name y py)) spos.line X.env = pure true) (hi : PI X tg iter wi) (ok : BlkOk X.N X.env.scope scope own)
    (hg : ∀ (s : Shared) (H : Hp) (C : Addr) (cl : List (Str × Addr)) (fp : List Addr), PG (X.blk s H scope (compEnvC scope cl C X.env) fp) tg g)
    (ht : ∀ (s : Shared) (H : Hp) (C : Addr) (cl : List (Str × Addr)) (fp : List Addr), PTs (X.blk s H scope (compEnvC scope cl C X.env) fp) ifs tt)
    (hk : ∀ (s : Shared) (H : Hp) (C : Addr) (cl : List (Str × Addr)) (fp : List Addr), PE (X.blk s H scope (compEnvC scope cl C X.env) fp) kx tk)
    (he : ∀ (s : Shared) (H : Hp) (C : Addr) (cl : List (Str × Addr)) (fp : List Addr), PE (X.blk s H scope (compEnvC scope cl C X.env) fp) vx tv) (hs : ∀ x, foldedSetIterable iter X.env x = pure x := by intro _; rfl) : PS X (.Assign [.Name y py] (.DictComp kx vx [⟨tg, iter, ifs, 0⟩] scope pos) spos) (tAsg (tDcT wi g tt tk tv (own.map (·.2))) (gName i)) := by
  refine ⟨fun pins s σ H D I h => ?_⟩
  rw [exec_Assign_Name_used _ _ _ _ hsw]
  refine wpAny_bind (wpAny_standAt (wpAny_bind ?_))
  show wpAny _ X.A (do let _ ← comprehension (.DictComp kx vx [⟨tg, iter, ifs, 0⟩] scope pos) scope X.env (firstIterPos [⟨tg, iter, ifs, 0⟩] pos) newDict false (eval iter X.env) (some (assign (.Name y py) X.env))) _ _ s
  have h : tDcT wi g tt tk tv (own.map (·.2)) σ H (fun x H1 => gName i x σ H1 D.nx) := h
  refine wpAny_bind (thn (dcT_core (Qf := fun _ s' => SP X pins D .next s') hc hN hr I hi ok hg ht hk he hs h fun L C s' m H' I' q hn f => ?_) fun _ s' hq => wpAny_pure (wpAny_pure hq))
  show wpAny _ _ (assign (.Name y py) X.env (.ref L)) _ _ _
  refine wpAny_assign_Name (store_ok2 (v := V.ref L) I' hN hy (.inl hyl) rfl (fun s2 I2 ⟨a, sb, ha⟩ => ?_) (.inr hyl))
  obtain ⟨f0, f1, f2, f3, f4, f5⟩ := f
  have haC : C ≠ a := by
    rcases ha with z | z
    · rw [z]; exact f1
    · exact fun e => f4 y a z e.symm
  refine ⟨m, hn.sameBut sb haC, fun h3 sb3 => ?_⟩
  exact ⟨_, H', I2.turned (t' := s2.toks) (fun b o hb e => (sb3.2 b hb).trans e) f0 f1 f3 f4 f5, q⟩
end
noncomputable def cput (d : Nat) (ks : List PV) (z : PV) (m : MH) (k : MH → R PV) : R PV := match ks, m[d]? with
  | [.int a, .int b], some (.dct kvs) => if kvs.length < 16777216 then k (m.set d (.dct (putD kvs [a, b] z))) else .bad
  | _, _ => .bad
open Classical in
noncomputable def compDT (it : ITM) (g : STg) (t : SB) (sk : SA) (sv : SE) (d : Nat) (l0 : SM.Loc) : List PV → MH → R PV
  | [], m => if it.ok m then .ok (.ref d) m else .bad
  | x :: r, m => if it.ok m then match g x l0 m with
      | some (l1, m1) => match t l1 m1 with
        | .ok b m2 => if b = true then match sk l1 m2 with
            | .ok ks m3 => match sv l1 m3 with
              | .ok z m4 => cput d ks z m4 fun m5 => compDT it g t sk sv d l0 r m5
              | _ => .bad
            | _ => .bad
          else compDT it g t sk sv d l0 r m2
        | _ => .bad
      | none => .bad
    else .bad
noncomputable def sDcT (si : SI) (g : STg) (t : SB) (sk : SA) (sv : SE) (vs : List Nat) : SE := fun l m => (si l m).bind fun it m1 => compDT it g t sk sv m1.length (wipeP l vs) it.items (m1 ++ [.dct []])
section
variable {X : Cx} {W : XM} {vx tg iter : Expr} {es ifs : List Expr} {scope : Scope} {own : List (Str × Nat)} {pos kpos : Pos} {kk : Nat} {si : SI} {g : STg} {t : SB} {sk : SA} {sv : SE}
theorem dcT_it {J : It} {n : Nat} {G : Hp → Prop} {Y : Nat → Hp → V → Hp → Prop} (w : Walk J n G Y) {g : TG} {tt : TT} {tk tv : TE} {vs : List Nat} {σ : L2.St} {H1 : Hp} {D : Addr} {Qd : Hp → Prop} (Pv : Nat → Hp → Prop) (h0 : Pv 0 (upd H1 D (.dT []))) (hG : ∀ i H, i ≤ n → Pv i H → G H)
    (hs : ∀ i x H H', i < n → Pv i H → Y i H x H' → g x (wipe σ vs) H' fun σ2 H2 => wipe σ2 vs = wipe σ vs ∧ tt σ2 H2 fun b H3 =>
      if b = true then tk σ2 H3 fun y H4 => tv σ2 H4 fun z H5 => PutT H5 D y z (Pv (i + 1)) else Pv (i + 1) H3) (hd : ∀ H, Pv n H → Qd H) :
    ∃ W : Nat → Nat → Hp → Prop, (∃ m, W 0 m (upd H1 D (.dT []))) ∧ TurnT J g tt tk tv (wipe σ vs) vs D Qd W := by
  refine ⟨fun i m H => m = n - i ∧ i ≤ n ∧ Pv i H, ⟨n, by simp, Nat.zero_le _, h0⟩, ?_⟩
  rintro i m H ⟨rfl, hi, p⟩
  have q := hG i H hi p
  by_cases hlt : i < n
  · refine .inr ⟨w.goes i H hlt q, Pv (i + 1), fun H' p' => ⟨n - (i + 1), by omega, rfl, hlt, p'⟩, fun x H' y => hs i x H H' hlt p (w.yields i H x H' hlt q y)⟩
  · have e : i = n := by omega
    subst e
    exact .inl ⟨w.stops H q, hd H p⟩
theorem dcT_at {j : Nat} {Q : VK} {σ : L2.St} {H : Hp} {vs : List Nat} (h : Rdg X.K (rV X.K) W (sDcT si g t sk (sVar j) vs) σ H Q) :
    tDcT (RdI X.K W si) (fun v σ H Q => ∃ φ l m x, RH X.K H φ m ∧ RL X.K H φ l σ ∧ RV X.K H φ x v ∧ ∃ l' m', g x l m = some (l', m') ∧ ∀ φ' σ' H', wipe σ' vs = wipe σ vs → Ext X.K φ H φ' H' → RH X.K H' φ' m' → RL X.K H' φ' l' σ' → Q σ' H')
      (Rdg X.K rB W0 t) (tTup (Rdg X.K (rA X.K) W0 sk)) (tVar j) vs σ H Q := by
  obtain ⟨φ, l, m, h1, h2, h3⟩ := h
  refine ⟨φ, l, m, h1, h2, ?_⟩
  unfold sDcT at h3
  cases hsi : si l m with
  | bad => rw [hsi] at h3; exact h3
  | ex c fs m' => rw [hsi] at h3; exact h3
  | ok it m1 =>
    rw [hsi] at h3
    have h3 : Post X.K (rV X.K) W φ l σ H (compDT it g t sk (sVar j) m1.length (wipeP l vs) it.items (m1 ++ [.dct []])) Q := h3
    intro φ1 H1 J x1 a1 w D nD
    have hlen := a1.len
    refine dcT_it (g := fun v σ H Q => ∃ φ l m x, RH X.K H φ m ∧ RL X.K H φ l σ ∧ RV X.K H φ x v ∧ ∃ l' m', g x l m = some (l', m') ∧ ∀ φ' σ' H', wipe σ' vs = wipe σ vs → Ext X.K φ H φ' H' → RH X.K H' φ' m' → RL X.K H' φ' l' σ' → Q σ' H') (tt := Rdg X.K rB W0 t) (tk := tTup (Rdg X.K (rA X.K) W0 sk)) (tv := tVar j) (vs := vs) (σ := σ) (H1 := H1) (D := D) (Qd := fun H => Q (.ref D) H) w (fun i H2 => ∃ φ2 m2, Ext X.K φ1 H1 φ2 H2 ∧ RH X.K H2 φ2 m2 ∧ φ2[m1.length]? = some D ∧ Post X.K (rV X.K) W φ2 l σ H2 (compDT it g t sk (sVar j) m1.length (wipeP l vs) (it.items.drop i) m2) Q) ?_ ?_ ?_ ?_
    · have e2 : Ext X.K φ1 H1 (φ1 ++ [D]) (upd H1 D (.dT [])) := ⟨⟨[D], rfl⟩, fun a ws w => sqt_upd_new nD w, fun _ _ _ w => by rw [upd_ne (ne_of_none w nD)]; exact w, fun _ _ w => by rw [upd_ne (ne_of_none w nD)]; exact w, fun _ _ w => by rw [upd_ne (ne_of_none w nD)]; exact w⟩
      exact ⟨_, _, e2, a1.newO (x := .dct []) nD e2 ⟨[], upd_same, rfl⟩, by rw [← hlen]; simp, Post.ext (x1.trans e2) h3⟩
    · rintro i H2 hi ⟨φ2, m2, x2, a2, d2, p2⟩
      refine ⟨φ2, m2, x2, a2, ?_⟩
      cases hd : it.items.drop i with
      | nil =>
        rw [hd] at p2
        unfold compDT at p2
        by_cases hk : it.ok m2
        · exact hk
        · rw [if_neg hk] at p2; exact p2.elim
      | cons x r =>
        rw [hd] at p2
        unfold compDT at p2
        by_cases hk : it.ok m2
        · exact hk
        · rw [if_neg hk] at p2; exact p2.elim
    · rintro i v H2 H2' hi ⟨φ2, m2, x2, a2, d2, p2⟩ ⟨rfl, hv⟩
      have hi' : i < it.items.length := hi
      rw [List.drop_eq_getElem_cons hi'] at p2
      unfold compDT at p2
      by_cases hk : it.ok m2
      · rw [if_pos hk] at p2
        obtain ⟨x0', hx1, hx2⟩ := hv φ2 m2 x2 a2 hk
        rw [List.getElem?_eq_getElem hi'] at hx1
        cases hx1
        cases hgx : g it.items[i] (wipeP l vs) m2 with
        | none => rw [hgx] at p2; exact p2.elim
        | some p =>
          obtain ⟨l3, m3⟩ := p
          rw [hgx] at p2
          dsimp only at p2
          refine ⟨φ2, wipeP l vs, m2, _, a2, (h2.ext (x1.trans x2)).wipe vs, hx2, l3, m3, hgx, fun φ3 σ3 H3 w3 x3 a3 b3 => ⟨by rw [w3, wipe_sub vs fun _ h => h], φ3, l3, m3, a3, b3, ?_⟩⟩
          have p3 := Post.ext x3 p2
          cases ht : t l3 m3 with
          | bad => rw [ht] at p3; exact p3
          | ex c fs m' => rw [ht] at p3; exact p3.elim
          | ok b m4 =>
            rw [ht] at p3
            dsimp only at p3
            intro φ4 H4 b' x4 a4 hb
            cases hb
            cases b with
            | false => exact iteF ⟨φ4, m4, (x2.trans x3).trans x4, a4, x4.get (x3.get d2), Post.ext x4 p3⟩
            | true =>
              rw [if_pos rfl] at p3
              refine iteT (show tTup (Rdg X.K (rA X.K) W0 sk) σ3 H4 _ from ?_)
              unfold tTup
              refine ⟨φ4, l3, m4, a4, b3.ext x4, ?_⟩
              have p4 := Post.ext x4 p3
              cases he : sk l3 m4 with
              | bad => rw [he] at p4; exact p4
              | ex c fs m' => rw [he] at p4; exact p4.elim
              | ok ks m5 =>
                rw [he] at p4
                dsimp only at p4
                intro φ5 H5 us x5 a5 r5
                have p5 := Post.ext x5 p4
                unfold sVar at p5
                cases hl : l3[j]? with
                | none => rw [hl] at p5; exact p5.elim
                | some oz =>
                  cases oz with
                  | none => rw [hl] at p5; exact p5.elim
                  | some z =>
                    rw [hl] at p5
                    dsimp only at p5
                    obtain ⟨zv, g1, g2⟩ := b3.2 j z hl
                    unfold cput at p5
                    split at p5
                    · rename_i ka kb kvs hm6
                      have eus : us = (encT [ka, kb]).map kV := by
                        obtain ⟨u1, r1, rfl, t1, u2, r2, rfl, t2, t3⟩ := r5
                        cases t1; cases t2; cases t3
                        rfl
                      refine ⟨by rw [RVs.length r5]; show 2 ≤ sizeLine; decide, fun p hp => ?_⟩
                      obtain ⟨y1, y2, y3⟩ := a5.newT hp r5
                      refine ⟨zv, g1, ?_⟩
                      have hp6 : (upd H5 p (.tup us)) p = some (.tup ((encT [ka, kb]).map kV)) := by rw [upd_same, eus]
                      have d6 : φ5[m1.length]? = some D := y1.get (x5.get (x4.get (x3.get d2)))
                      obtain ⟨ws, e1, e2⟩ := y2.obj _ D _ d6 hm6
                      by_cases hz : kvs.length < 16777216
                      · rw [if_pos hz] at p5
                        obtain ⟨f1, f2⟩ := y2.setM d6 hm6 rfl e1 (fun _ z => by cases z) (fun _ _ z => by cases z) rfl (o2 := .dct (putD kvs [ka, kb] z)) (u2 := .dT (putK ws (encT [ka, kb]) zv)) fun e => ⟨_, upd_same, rks_put encT_inj (RV.ext (((x4.trans x5).trans y1).trans e) g2) (RKs.ext e e2)⟩
                        exact ⟨p, ws, encT [ka, kb], rfl, hp6, e1, by rw [rks_len e2, sl_eq]; exact hz, φ5, _, ((((x2.trans x3).trans x4).trans x5).trans y1).trans f1, f2, f1.get d6, Post.ext (y1.trans f1) p5⟩
                      · rw [if_neg hz] at p5; exact p5.elim
                    · exact p5.elim
      · rw [if_neg hk] at p2; exact p2.elim
    · rintro H2 ⟨φ2, m2, x2, a2, d2, p2⟩
      rw [List.drop_of_length_le (Nat.le_refl _)] at p2
      unfold compDT at p2
      by_cases hk : it.ok m2
      · rw [if_pos hk] at p2
        exact p2 φ2 H2 (.ref D) Ext.refl a2 ⟨D, d2, rfl⟩
      · rw [if_neg hk] at p2; exact p2.elim
theorem x_setDcT (i : Nat) {kr : Nat} {j : Nat} {y vn : Str} {py vp spos : Pos} (hc : X.calm = true) (hN : X.N.Nodup) (hr : Room kr X.A) (hy : X.N[i]? = some y) (hyl : X.env.scope.names.lookup y = some .local)
    (hsw : swapsWith (.DictComp (.Tuple es kk kpos) (.Name vn vp) [⟨tg, iter, ifs, 0⟩] scope pos) (some (.Name y py)) spos.line X.env = pure true) (hi : QI X W tg iter si) (ok : BlkOk X.N X.env.scope scope own)
    (hg : ∀ (s : Shared) (H : Hp) (C : Addr) (cl : List (Str × Addr)) (fp : List Addr), QN (X.blk s H scope (compEnvC scope cl C X.env) fp) tg g (own.map (·.2))) (ht : ∀ (s : Shared) (H : Hp) (C : Addr) (cl : List (Str × Addr)) (fp : List Addr), QTs (X.blk s H scope (compEnvC scope cl C X.env) fp) W0 ifs t)
    (hk : ∀ (s : Shared) (H : Hp) (C : Addr) (cl : List (Str × Addr)) (fp : List Addr), QA (X.blk s H scope (compEnvC scope cl C X.env) fp) W0 es sk)
    (he : ∀ (s : Shared) (H : Hp) (C : Addr) (cl : List (Str × Addr)) (fp : List Addr), PE (X.blk s H scope (compEnvC scope cl C X.env) fp) (.Name vn vp) (tVar j)) (hs : ∀ x, foldedSetIterable iter X.env x = pure x := by intro _; rfl) :
    QS X W (.Assign [.Name y py] (.DictComp (.Tuple es kk kpos) (.Name vn vp) [⟨tg, iter, ifs, 0⟩] scope pos) spos) (xSet i (sDcT si g t sk (sVar j) (own.map (·.2)))) :=
  ⟨ps_imp (ps_setDcT hc hN hr hy hyl hsw hi.pi ok (fun s H C cl fp => (hg s H C cl fp).pg) (fun s H C cl fp => (ht s H C cl fp).pt) (fun s H C cl fp => pe_tup (hk s H C cl fp).pa) (fun s H C cl fp => he s H C cl fp) hs) fun D σ H ⟨φ, l, m, h1, h2, h3⟩ =>
    dcT_at ⟨φ, l, m, h1, h2, (PostS.then (rel := rV X.K) h2 h3).mono fun v H1 ⟨φ1, x, m1, e1, a1, b1, c1, d1⟩ => d1 φ1 _ H1 Ext.refl a1 (b1.set i c1)⟩⟩
end
end SM
set_option Elab.async false
set_option linter.all false
set_option maxRecDepth 100000
set_option maxHeartbeats 2000000
namespace SM
open PySem PySem.Spec PyProof.Rows L2
def ninTv : List PV → PV → MH → OR
  | [.int a, .int b], .ref n, m => match m[n]? with
    | some (.dct kvs) => some (.bl (!(getD kvs [a, b]).isSome), m)
    | _ => none
  | _, _, _ => none
def sNinT (sk : SA) (j : Nat) : SE := fun l m => (sk l m).bind fun ks m1 => (sVar j l m1).bind fun x m2 => lift (ninTv ks x m2)
theorem rks_noneT {K : PySem.W.Frag} {H : Hp} {φ : List Addr} {k : List Int} : ∀ {kvs : List (List Int × PV)} {ws : List (List Key × V)}, RKs K H φ encT kvs ws → getD kvs k = none → valV ws (encT k) = none
  | [], ws, h, _ => by cases h; rfl
  | p :: kvs, ws, h, g => by
    obtain ⟨v, t, rfl, _, h3⟩ := h
    unfold getD at g
    rw [List.find?_cons] at g
    by_cases c : p.1 = k
    · rw [decide_eq_true c] at g
      cases g
    · rw [decide_eq_false c] at g
      rw [valV_neg (by intro z; exact c (encT_inj.mp z))]
      exact rks_noneT h3 g
section
variable {X : Cx} {W : XM} {es : List Expr} {x : Str} {sk : SA} {j k kk : Nat} {p kpos pos : Pos}
theorem t_ninT (hr : Room k X.A) (hk : QA X W es sk) (ho : PE X (.Name x p) (tVar j)) (hb : behindInMarks .NotIn (.Name x p) = false := by rfl) : QT X W (.Compare (.Tuple es kk kpos) [.NotIn] [.Name x p] pos) (tBool (sNinT sk j)) :=
  ⟨pt_imp (pt_cmp (pc_dnotin (by have := hr.units; omega) (pe_tup hk.pa) ho) hb) fun σ H Q h => by
    obtain ⟨φ, l, m, h1, h2, h3⟩ := Rdg.asB' h
    refine ⟨φ, l, m, h1, h2, (Post.bind (rel := rA X.K) h2 h3).mono ?_⟩
    rintro vs H1 ⟨φ1, ks, m1, e1, a1, b1, c1, d1⟩
    unfold sVar at d1
    cases hl : l[j]? with
    | none => rw [hl] at d1; exact d1.elim
    | some oz =>
      cases oz with
      | none => rw [hl] at d1; exact d1.elim
      | some y =>
        rw [hl] at d1
        obtain ⟨v, g1, g2⟩ := b1.2 j y hl
        have d0 : Post X.K (rV X.K) W φ1 l σ H1 (lift (ninTv ks y m1)) _ := d1
        have d2 := PostO.of d0
        unfold ninTv at d2
        split at d2
        · rename_i a b n
          split at d2
          · rename_i kvs hm
            have ed : ninTv [.int a, .int b] (.ref n) m1 = some (.bl (!(getD kvs [a, b]).isSome), m1) := by unfold ninTv; dsimp only; rw [hm]
            have eus : vs = (encT [a, b]).map kV := by
              obtain ⟨u1, r1, rfl, t1, u2, r2, rfl, t2, t3⟩ := c1
              cases t1; cases t2; cases t3
              rfl
            refine ⟨by rw [RVs.length c1]; show 2 ≤ sizeLine; decide, fun p hp => ⟨v, g1, ?_⟩⟩
            obtain ⟨y1, y2, y3⟩ := a1.newT hp c1
            obtain ⟨ad, had, rfl⟩ := RV.ext y1 g2
            obtain ⟨ws, q1, q2⟩ := y2.obj n ad _ had hm
            have g := DGet.t q1 (show (upd H1 p (.tup vs)) p = some (.tup ((encT [a, b]).map kV)) by rw [upd_same, eus])
            refine ⟨ad, _, rfl, g, ?_⟩
            have fin := PostO.of (Post.ext y1 d0)
            rw [ed] at fin
            cases hg : getD kvs [a, b] with
            | none =>
              rw [rks_noneT q2 hg]
              rw [hg] at fin
              exact fin.same y2 rfl
            | some z =>
              obtain ⟨u, e5, e6⟩ := rks_get encT_inj q2 hg
              rw [e5]
              rw [hg] at fin
              exact fin.same y2 rfl
          · exact d2.not.elim
        · exact d2.not.elim⟩
end
def maxDf (ns : List Int) (d : Int) : Int := (maxI ns).getD d
def sMaxD (sa : SA) (sk : SA) : SE := fun l m => (sa l m).bind fun xs m1 => (sk l m1).bind fun ks m2 => match xs, ks with
  | [.ref n], [.int d] => match seq? m2 n with
    | some ys => match ints? ys with
      | some ns => .ok (.int (maxDf ns d)) m2
      | none => .bad
    | none => .bad
  | _, _ => .bad
theorem cr_maxDefault {X : Cx} {k : Nat} (hc : X.calm = true) (hr : Room k X.A) : CallRK X (.builtin "max") [Str.ofString "default"] (fun vs zs H Q => ∃ (a : Addr) (ns : List Int) (d : Int), vs = [V.ref a] ∧ zs = [.int d] ∧ SqL X.K H a (ns.map V.int) ∧ Q (.int (maxDf ns d)) H) := by
  intro pins s σ H vs zs us ws Q I r rz h
  obtain ⟨a, ns, d, rfl, rfl, hs, q⟩ := h
  obtain rfl := Vals.ref1 r
  obtain ⟨w1, rfl, e1⟩ := vals1 rz
  obtain ⟨its, rv, hl, hz⟩ := I.list hs
  obtain ⟨t, rfl⟩ : ∃ t, w1 = Value.int d t := e1
  refine PySem.W.max_list_datum_default (α := Int) (xs := ns) (I.ok.hd hc) hl.isList (by simpa using PySem.W.HoldAll.of_ints rv.ints) (by have := hr.units; show _ + 1 + 0 < _; omega) (fun e h' tk hk => ?_) fun y ys i v h' tk e hi hv hk => ?_
  · subst e
    exact ⟨.int d, H, I.kept hk, ⟨_, rfl⟩, q⟩
  · subst e
    obtain ⟨t, rfl⟩ := PySem.W.int_of_holds hv
    refine ⟨.int _, H, I.kept hk, ⟨_, rfl⟩, ?_⟩
    have e2 : PySem.W.maxOf y ys = maxDf (y :: ys) d := by
      show ys.foldl (fun a z => if decide (a < z) = true then z else a) y = ys.foldl (fun a b => if a < b then b else a) y
      congr 1
      funext a z
      simp only [decide_eq_true_eq]
    rw [e2]
    exact q
section
variable {X : Cx} {W : XM} {e f : Expr} {sa : SA} {sf : SE} {k : Nat} {p kp pos : Pos}
theorem pk_one {nm : Option Str} (h : QE X W f sf) : PK X [⟨nm, f, kp⟩] (Rdg X.K (rA X.K) W (aCons sf aNil)) :=
  ⟨fun pos pins s σ H Q I q => (pk_cons h.pe pk_nil).run pos pins s σ H Q I (by
    obtain ⟨φ, l, m, h1, h2, h3⟩ := q
    refine ⟨φ, l, m, h1, h2, (Post.bind (rel := rV X.K) h2 h3).mono ?_⟩
    rintro v H1 ⟨φ1, x, m1, e1, a1, b1, c1, d1⟩
    exact d1 φ1 H1 [v] Ext.refl a1 ⟨v, [], rfl, c1, rfl⟩)⟩
theorem q_maxD (hc : X.calm = true) (hr : Room k X.A) (hg : Gl X (Str.ofString "max")) (hm : X.mg (Str.ofString "max") = none) (ha : QA X W [e] sa) (hf : QE X W f sf)
    (hv : bootBuiltins (Str.ofString "max") = some (.builtin "max") := by rfl) (hn : (Str.ofString "max") ≠ "__name__" := by decide) (hd2 : (Str.ofString "max" == ("__debug__" : Str)) = false := by decide)
    (he : backTo pos (starEach [e] X.env) = (false, eval e X.env) :: backTo pos (starEach [] X.env) := by rfl) (hpl : (backTo pos (starEach [e] X.env)).any (·.1) = false := by rfl)
    (hall : (backToKw pos (keywordEach [⟨some (Str.ofString "default"), f, kp⟩] X.env)).all (·.1.isSome) = true := by rfl) (hnone : (backToKw pos (keywordEach [⟨some (Str.ofString "default"), f, kp⟩] X.env)).any (·.1.isNone) = false := by rfl)
    (hks : (backToKw pos (keywordEach [⟨some (Str.ofString "default"), f, kp⟩] X.env)).filterMap (·.1) = [Str.ofString "default"] := by rfl) :
    QE X W (.Call (.Name (Str.ofString "max") p) [e] [⟨some (Str.ofString "default"), f, kp⟩] pos) (sMaxD sa (aCons sf aNil)) :=
  ⟨pe_imp (pe_callBK (cr_maxDefault hc hr) hg hm hv ha.pa (pk_one hf) hn hd2 he hpl hall hnone hks) fun σ H Q ⟨φ, l, m, h1, h2, h3⟩ => by
    refine ⟨φ, l, m, h1, h2, (Post.bind (rel := rA X.K) h2 h3).mono ?_⟩
    rintro vs H1 ⟨φ1, xs, m1, e1, a1, b1, c1, d1⟩
    refine ⟨φ1, l, m1, a1, b1, (Post.bind (rel := rA X.K) b1 d1).mono ?_⟩
    rintro ws H2 ⟨φ2, ks, m2, e2, a2, b2, c2, d2⟩
    have c3 := RVs.ext e2 c1
    split at d2
    · rename_i n d
      split at d2
      · rename_i ys hq
        split at d2
        · rename_i ns hi
          obtain ⟨v, rfl, rx⟩ := c3.one
          obtain ⟨u, rfl, ru⟩ := c2.one
          obtain ⟨a, us, rfl, q1, q2⟩ := a2.seq rx hq
          have e := ints_rvs hi q2
          subst e
          cases ru
          exact ⟨a, ns, d, rfl, rfl, q1, d2 φ2 H2 _ Ext.refl a2 rfl⟩
        · exact d2.elim
      · exact d2.elim
    · exact d2.elim⟩
end
def extendv : PV → List PV → MH → OR
  | .ref n, [.ref k], m => match lst? m n, lst? m k with
    | some xs, some ys => if xs.length + ys.length ≤ 16777216 then some (.non, m.set n (.lst (xs ++ ys))) else none
    | _, _ => none
  | _, _, _ => none
theorem m_extend {X : Cx} : MtQ X "list.extend" extendv := .of fun v vs H Q φ m x xs h1 h2 h3 h4 => by
  unfold extendv at h4
  split at h4
  · rename_i n k
    split at h4
    · rename_i ys zs hs hs2
      split at h4
      · rename_i hz
        obtain ⟨w, rfl, r⟩ := h3.one
        obtain ⟨p, ws, e1, rfl, q1, q2⟩ := h1.lst h2 hs
        obtain ⟨p2, ws2, e12, rfl, q12, q22⟩ := h1.lst r hs2
        obtain ⟨z, m', e, q⟩ := h4
        cases e
        refine ⟨_, mt_extend, p, p2, ws, ws2, rfl, rfl, q1, q12, by rw [q2.length, q22.length, sl_eq]; exact hz, ?_⟩
        obtain ⟨e2, e3⟩ := h1.setL e1 (lst_some hs) (q2.append q22)
        exact q _ _ _ e2 e3 rfl
      · exact h4.not.elim
    · exact h4.not.elim
  · exact h4.not.elim
def ninTxv : PV → PV → MH → OR
  | .str s, .tup xs, m => (strs? xs).map fun ss => (.bl (!decide (s ∈ ss)), m)
  | _, _, _ => none
theorem o_ninTx {X : Cx} : OpQ X (compareOp .NotIn) ninTxv := .of_eq fun v w H Q φ m x y a1 a2 a3 a4 => by
  unfold ninTxv at a4
  split at a4
  · rename_i s xs
    cases a2
    obtain ⟨a, vs, rfl, q1, q2⟩ := a3
    cases hs : strs? xs with
    | none => rw [hs] at a4; exact a4.not.elim
    | some ss =>
      rw [hs] at a4
      have e := strs_rvs hs q2
      subst e
      refine ⟨_, op_notIn_seq, a, _, rfl, .inr q1, rfl, all_flat ss, ?_⟩
      rw [if_pos rfl, inV_strs]
      exact a4.same a1 rfl
  · exact a4.not.elim
def xTryO (cn : String) (sb sh : SS) : SS := fun l m => match sb l m with
  | .ex c [_] l' m' => if c = cn then (match sh l' m' with
    | .ex _ _ _ _ => .bad
    | r => r) else .bad
  | .ex _ _ _ _ => .bad
  | r => r
section
variable {X : Cx} {W : XM} {body suite : List Stmt} {b₀ : Stmt} {sb sh : SS} {x fn : Str} {cn : String} {C : Addr} {np pos pos' : Pos}
theorem x_tryO (hs : X.stack = X.env :: X.outer) (hf : X.env.frame = some X.env.locals) (T : ExcT X.prog X.w X.K X.mg X.base x C fn) (hg : Gl X x)
    (hb : ∀ (Wx : WX) (pn : List (Addr × Obj)) (xe : Value → Shared → Prop), Takes (X.tr pn xe) Wx → PassesOwn (model X.prog X.w) X.A X.env xe → QSs (X.tr pn xe) (WTx X.K C cn fn Wx) body sb)
    (hsu : ∀ (a : Addr) (pn : List (Addr × Obj)), QSs (X.suite a pn) (fun _ _ _ _ _ _ _ => False) (b₀ :: suite) sh) (hdb : (x == ("__debug__" : Str)) = false := by decide) :
    QS X W (.Try body [.ExceptHandler (some (.Name x np)) none (b₀ :: suite) pos'] [] [] pos) (xTryO cn sb sh) :=
  ⟨ps_imp (ps_try_only (tb := fun Wx => RdS X.K (WTx X.K C cn fn Wx) sb) (ts := fun _ _ _ => RdS X.K (fun _ _ _ _ _ _ _ => False) sh) hs hf ⟨hg, hdb, .inl T.gC⟩ (L2.takes0 (X := X)) (fun Wx pn xe tk po => (hb Wx pn xe tk po).ps)
    (fun a oe cls d pn hz hff => (hsu a ((a, oe) :: pn)).ps)) fun D σ H ⟨φ, l, m, h1, h2, h3⟩ => by
    refine ⟨φ, l, m, h1, h2, ?_⟩
    unfold xTryO at h3
    cases hsb : sb l m with
    | nx l' m' => rw [hsb] at h3; exact h3
    | rt y m' => rw [hsb] at h3; exact h3
    | bk l' m' => rw [hsb] at h3; exact h3
    | ct l' m' => rw [hsb] at h3; exact h3
    | bad => rw [hsb] at h3; exact h3
    | ex c fs l' m' =>
      rw [hsb] at h3
      match fs, h3 with
      | [], h3 => exact h3.elim
      | [y], h3 =>
        dsimp only at h3
        by_cases hz : c = cn
        · rw [if_pos hz] at h3
          intro φ1 σ1 H1 x1 a1 b1
          refine ⟨y, hz, rfl, fun φ2 H2 d v x2 a2 b2 r2 e2 => ⟨true, T.te, fun _ a na => ?_, fun z => by cases z⟩⟩
          refine ⟨φ2, l', m', a2, b2, ?_⟩
          cases hh : sh l' m' with
          | nx l3 m3 => rw [hh] at h3; exact PostS.ext (x1.trans x2) h3
          | bk l3 m3 => rw [hh] at h3; exact PostS.ext (x1.trans x2) h3
          | ct l3 m3 => rw [hh] at h3; exact PostS.ext (x1.trans x2) h3
          | rt y3 m3 => rw [hh] at h3; exact PostS.ext (x1.trans x2) h3
          | ex c3 fs3 l3 m3 => rw [hh] at h3; exact h3.elim
          | bad => rw [hh] at h3; exact h3.elim
        · rw [if_neg hz] at h3; exact h3.elim
      | _ :: _ :: _, h3 => exact h3.elim⟩
end
end SM
set_option Elab.async false
set_option linter.all false
set_option maxRecDepth 100000
set_option maxHeartbeats 2000000
namespace SM
open PySem PySem.Spec PyProof.Rows L2
section
variable {P : Program} {w : World} {K : PySem.W.Frag} {mg : Str → Option Value} {base : Heap}
theorem okQC {x qual : Str} {st : Stmt} {f c : Addr} {oc : Value} {od an : Option Addr} {osl : Array (Option Value)} {kV doc pm ct : Value} {N ps : List Str} {k : Nat}
    (lk : K.lookup f = some ⟨oc, od, .func (PySem.W.fnOf x qual (defArgs st) (defBody st) (defScope st) .none kV doc pm an (.ref c) ct), osl⟩) (hcd : PySem.W.codeIn K (.ref c) qual = true) (S : FnScope N ps (defScope st)) (b : SS)
    (h : ∀ (A : Around) (outer : List Env) (s : Shared) (H : Hp) (E : XK), Room k (A.deeper (envOfC qual (defScope st) s.heap.objs.size f (.ref c))) →
      QSs (cxOf CX0 P w K mg base N qual (defScope st) f (.ref c) A outer s H E).nox W0 (defBody st) b) : FnOk P w K mg base CX0 (k + 1) f (PySem.W.fnOf x qual (defArgs st) (defBody st) (defScope st) .none kV doc pm an (.ref c) ct) ps (SpQ K ps.length (fnS ps.length N.length b)) := by
  refine fn_of lk hcd S (fun vs H Q E h => h.1) fun A outer s H vs Q E hr hsp => ?_
  obtain ⟨hl, φ, m, xs, h1, h2, h3⟩ := hsp
  have hle : ps.length ≤ N.length := by
    have := congrArg List.length S.pre
    rw [List.length_take] at this
    omega
  have hxl : xs.length = ps.length := by rw [← h2.length]; exact hl
  refine ⟨_, (h A outer s H E hr).ps.nox, φ, _, m, h1, rl_start hle h2 hxl, ?_⟩
  unfold fnS at h3
  rw [if_pos hxl] at h3
  cases hb : b (xs.map some ++ List.replicate (N.length - ps.length) none) m with
  | nx l m' => rw [hb] at h3; exact fun φ' σ' H' x a b => h3 φ' H' _ x a rfl
  | rt y m' => rw [hb] at h3; exact h3
  | bk l m' => rw [hb] at h3; exact h3.elim
  | ct l m' => rw [hb] at h3; exact h3.elim
  | ex c fs l m' => rw [hb] at h3; exact h3.elim
  | bad => rw [hb] at h3; exact h3.elim
/-- the script's object: two forms -/
def scrO (o : MO) (ns : List Int) : Prop := o = .lst (ns.map .int) ∨ o = .frz (ns.map .int)
/-- the law's promise at a script, a table of code objects beside it -/
theorem law_spT {f : FS} {E : XK} {H : Hp} {a P : Addr} {q : Str} {ns : List Int} (h : ∀ o, scrO o ns → ∃ m', f [.ref 0] [o, .tbl P q] = .ok (.bl true) m') (hT : H P = some (.tbl #[])) (hn : K.lookup P = none) (hS : SqL K H a (ns.map V.int)) : SpQ K 1 f [.ref a] H (fun v _ => v = .bl true) E := by
  have rvs : ∀ (φ : List Addr) (ns : List Int), RVs K H φ (ns.map .int) (ns.map V.int) := fun φ ns => by
    induction ns with
    | nil => rfl
    | cons n r ih => exact ⟨.int n, _, rfl, rfl, ih⟩
  have main : ∀ o, scrO o ns → RO K H [a, P] o a → a ≠ P → SpQ K 1 f [.ref a] H (fun v _ => v = .bl true) E := fun o ho ro ne => by
    obtain ⟨m', e⟩ := h o ho
    refine ⟨rfl, [a, P], [o, .tbl P q], [.ref 0], ⟨rfl, ?_, ?_⟩, ⟨.ref a, [], rfl, ⟨a, rfl, rfl⟩, rfl⟩, ?_⟩
    · intro i j b o u h1 h2 h3 h4 m1 m2
      match i, j, h1, h2 with
      | 0, 0, _, _ => rfl
      | 0, 1, h1, h2 => cases h1; cases h2; exact absurd rfl ne
      | 1, 0, h1, h2 => cases h1; cases h2; exact absurd rfl ne
      | 1, 1, _, _ => rfl
      | i + 2, _, h1, _ => cases h1
      | _, j + 2, _, h2 => cases h2
    · intro n b u h1 h2
      match n, h1, h2 with
      | 0, h1, h2 => cases h1; cases h2; exact ro
      | 1, h1, h2 => cases h1; cases h2; exact ⟨rfl, LamX.TabS.nil hT⟩
      | n + 2, h1, _ => cases h1
    · rw [e]
      intro φ' H' v x1 a1 r1
      exact r1
  rcases hS with (w | ⟨o, w⟩) | w
  · exact main _ (.inl rfl) ⟨_, w, rvs _ ns⟩ fun z => by rw [z, hT] at w; cases w
  · exact main _ (.inr rfl) ⟨_, .inl ⟨o, w⟩, rvs _ ns⟩ fun z => by rw [z, hT] at w; cases w
  · exact main _ (.inr rfl) ⟨_, .inr w, rvs _ ns⟩ fun z => by
      obtain ⟨o, its, n, h1, _⟩ := w
      rw [z, hn] at h1; cases h1
end
end SM
set_option Elab.async false
set_option linter.all false
set_option maxRecDepth 100000
set_option maxHeartbeats 2000000
namespace SM
open PySem PySem.Spec PyProof.Rows L2
end SM
set_option Elab.async false
set_option linter.all false
set_option maxRecDepth 100000
set_option maxHeartbeats 2000000
namespace SM
open PySem PySem.Spec PyProof.Rows L2
end SM
set_option Elab.async false
set_option linter.all false
set_option maxRecDepth 100000
set_option maxHeartbeats 2000000
namespace SM
open PySem PySem.Spec PyProof.Rows L2
end SM
set_option Elab.async false
set_option linter.all false
set_option maxRecDepth 100000
set_option maxHeartbeats 2000000
namespace SM
open PySem PySem.Spec PyProof.Rows L2
/-- the exceptions: class, word, field -/
abbrev XL := List (String × (Addr × Option Str))
def WEm (K : PySem.W.Frag) (L : XL) (E : XK) : XM := fun c fs φ _ m _ H => ∃ p, L.lookup c = some p ∧ match p.2 with
  | some fn => ∃ y, fs = [y] ∧ ∀ φ' H' d v, Ext K φ H φ' H' → RH K H' φ' m → RV K H' φ' y v → H' d = some (.xd [(fn, v)]) → E (.ref p.1) (some d) H'
  | none => fs = [] ∧ ∀ φ' H', Ext K φ H φ' H' → RH K H' φ' m → E (.ref p.1) none H'
def WTm (K : PySem.W.Frag) (L : XL) (Wx : WX) : XM := fun c fs φ l m σ H => ∃ p, L.lookup c = some p ∧ match p.2 with
  | some fn => ∃ y, fs = [y] ∧ ∀ φ' H' d v, Ext K φ H φ' H' → RH K H' φ' m → RL K H' φ' l σ → RV K H' φ' y v → H' d = some (.xd [(fn, v)]) → Wx (.ref p.1) (some d) σ H'
  | none => fs = [] ∧ ∀ φ' H', Ext K φ H φ' H' → RH K H' φ' m → RL K H' φ' l σ → Wx (.ref p.1) none σ H'
def PostM (K : PySem.W.Frag) (L : XL) (φ : List Addr) (H : Hp) (r : R PV) (Q : VK) (E : XK) : Prop := match r with
  | .ok x m => ∀ φ' H' v, Ext K φ H φ' H' → RH K H' φ' m → RV K H' φ' x v → Q v H'
  | .ex c fs m => ∀ φ' H', Ext K φ H φ' H' → RH K H' φ' m → WEm K L E c fs φ' [] m [] H'
  | .bad => False
def SpM (K : PySem.W.Frag) (L : XL) (n : Nat) (f : FS) : Sp := fun vs H Q E => vs.length = n ∧ ∃ φ m xs, RH K H φ m ∧ RVs K H φ xs vs ∧ PostM K L φ H (f xs m) Q E
theorem exm_two {K : PySem.W.Frag} {A S : Addr} {b : Bool} (h1 : PySem.W.subIn K (.ref S) (.type "BaseException") = some true) (h2 : PySem.W.isClsIn K S = true) (h3 : PySem.W.typeIn K (.ref S) = some (.type "type")) (h4 : PySem.W.subIn K (.ref A) (.ref S) = some b) : PySem.W.exmOne K (.ref A) (.ref S) = some b := by
  have h2 : (PySem.W.clsIn K S).isSome = true := h2
  unfold PySem.W.exmOne
  rw [if_pos (by rw [h1]; rfl)]
  unfold PySem.W.kitCls
  simp [h2, h3, h4]
section
variable {P : Program} {w : World} {K : PySem.W.Frag} {mg : Str → Option Value} {base : Heap}
theorem okMQ {x qual : Str} {st : Stmt} {f : Addr} {fd : FuncData} {N ps : List Str} {k : Nat} {L : XL} (F : Fun K x qual st f fd) (S : FnScope N ps (defScope st)) (b : SS)
    (h : ∀ (cdv : Value) (A : Around) (outer : List Env) (s : Shared) (H : Hp) (E : XK), Room k (A.deeper (envOfC qual (defScope st) s.heap.objs.size f cdv)) →
      QSs (cxOf (L2.CX P w) P w K mg base N qual (defScope st) f cdv A outer s H E) (WEm K L E) (defBody st) b) : FnOk P w K mg base (L2.CX P w) (k + 1) f fd ps (SpM K L ps.length (fnS ps.length N.length b)) := by
  refine F.okX S (fun vs H Q E h => h.1) fun cdv A outer s H vs Q E hr hsp => ?_
  obtain ⟨hl, φ, m, xs, h1, h2, h3⟩ := hsp
  have hle : ps.length ≤ N.length := by
    have := congrArg List.length S.pre
    rw [List.length_take] at this
    omega
  have hxl : xs.length = ps.length := by rw [← h2.length]; exact hl
  refine ⟨_, (h cdv A outer s H E hr).ps, φ, _, m, h1, rl_start hle h2 hxl, ?_⟩
  unfold fnS at h3
  rw [if_pos hxl] at h3
  cases hb : b (xs.map some ++ List.replicate (N.length - ps.length) none) m with
  | nx l m' => rw [hb] at h3; exact fun φ' σ' H' x a b => h3 φ' H' _ x a rfl
  | rt y m' => rw [hb] at h3; exact h3
  | bk l m' => rw [hb] at h3; exact h3.elim
  | ct l m' => rw [hb] at h3; exact h3.elim
  | ex c fs l m' => rw [hb] at h3; exact fun φ' σ' H' x a b => h3 φ' H' x a
  | bad => rw [hb] at h3; exact h3.elim
end
section
variable {X : Cx} {a : Expr} {ses : SA} {x fn : Str} {cn : String} {C : Addr} {E : XK} {p pos pos2 : Pos} {L : XL}
theorem x_raiseM (hc : X.calm = true) (T : ExcT X.prog X.w X.K X.mg X.base x C fn) (hr : Room 2 X.A) (tk : Takes X (fun cls d _ H => E cls d H)) (hL : L.lookup cn = some (C, some fn)) (ha : QA X (WEm X.K L E) [a] ses) (hg : Gl X x := by rfl) (hdb : (x == ("__debug__" : Str)) = false := by decide)
    (he : starEach (a :: []) X.env = (false, eval a X.env) :: starEach [] X.env := by rfl) (hpl : (backTo pos (starEach [] X.env)).any (·.1) = false := by rfl) :
    QS X (WEm X.K L E) (.Raise (some (.Call (.Name x p) [a] [] pos)) none pos2) (xRaise cn ses) := by
  obtain ⟨fI, fd, iC, tI, F, hb⟩ := T.ini
  refine ⟨ps_imp (ps_raise hc tk (pmk_oex T.T iC tI F hr hb .nil pass0 hg T.gC ha.pa hdb he hpl)) fun D σ H ⟨φ, l, m, h1, h2, h3⟩ => ?_⟩
  refine ⟨φ, l, m, h1, h2, (PostS.then (rel := rA X.K) h2 h3).mono ?_⟩
  rintro vs H1 ⟨φ1, xs, m1, e1, a1, b1, c1, d1⟩
  obtain ⟨pp, hpp, fin⟩ := d1 φ1 σ H1 Ext.refl a1 b1
  rw [hL] at hpp
  cases hpp
  obtain ⟨y, rfl, fin⟩ := fin
  obtain ⟨v, ws, rfl, r1, rfl⟩ := c1
  refine ⟨by simp, fun q hq => ⟨q, v, rfl, upd_same, fun dx n ne => ?_⟩⟩
  have hdx : H1 dx = none := by rw [upd_ne ne] at n; exact n
  refine ⟨rfl, dx, [(fn, v)], upd_same, by rw [upd_ne ne, upd_same], hdx, ?_⟩
  have eH : upd (del (upd (upd (upd H1 q (exo q C none)) dx (exd dx [(fn, v)])) q (exo q C (some dx))) q) dx (.xd [(fn, v)]) = upd H1 dx (.xd [(fn, v)]) := by
    funext b
    by_cases hb1 : b = dx
    · subst hb1; rw [upd_same, upd_same]
    · rw [upd_ne hb1, upd_ne hb1]
      by_cases hb2 : b = q
      · subst hb2; rw [del_same, hq]
      · rw [del_ne hb2, upd_ne hb2, upd_ne hb1, upd_ne hb2]
  rw [eH]
  obtain ⟨x1, x2⟩ := a1.newX (u := .xd [(fn, v)]) hdx
  exact fin φ1 _ dx v x1 x2 (RV.ext x1 r1) upd_same
end
structure Exc0T (K : PySem.W.Frag) (mg : Str → Option Value) (x : Str) (C : Addr) : Prop where
  gC : mg x = some (.ref C)
  q : PySem.W.excIn K C [.type "ValueError", .type "Exception", .type "BaseException", .type "object"] "ValueError.__new__" = true
  kp : PySem.W.keepIn K (.ref C) = true
  ex : PySem.W.subIn K (.ref C) (.type "BaseException") = some true
  ty : PySem.W.typeIn K (.ref C) = some (.type "type")
  te : PySem.W.exmOne K (.ref C) (.ref C) = some true
def xRaise0 (cn : String) : SS := fun l m => .ex cn [] l m
section
variable {X : Cx} {x : Str} {cn : String} {C : Addr} {E : XK} {p pos pos2 : Pos} {L : XL}
theorem pmk_plain (T : Exc0T X.K X.mg x C) (hg : Gl X x) (hdb : (x == ("__debug__" : Str)) = false := by decide) : PMk X (.Call (.Name x p) [] [] pos) (fun _ H Q => Q (.ref C) none H) := by
  intro pins s σ H Q I h
  refine wpAny_Call_Name_kw (ld_glob I hg T.gC (PySem.W.callWith_K0 I.kIn T.kp ?_) hdb)
  obtain ⟨bm, N, nm, qn, bs, hdct, sn, sub, ab, col, dd, k0, k1, k2, k3, k5, mN, hC, hN, hni, OT⟩ := exc_obj I.kIn T.q
  exact wpAny_call_exc_subT PySem.F.excBase_ValueError OT hC hN hni (fun h' e hm => mk_of I hm (raises_own T.ex T.ty) h (I.hok.gone hm.new)) (Nat.zero_le _)
theorem x_raise0 (hc : X.calm = true) (T : Exc0T X.K X.mg x C) (tk : Takes X (fun cls d _ H => E cls d H)) (hL : L.lookup cn = some (C, none)) (hg : Gl X x := by rfl) (hdb : (x == ("__debug__" : Str)) = false := by decide) :
    QS X (WEm X.K L E) (.Raise (some (.Call (.Name x p) [] [] pos)) none pos2) (xRaise0 cn) := by
  refine ⟨ps_imp (ps_raise hc tk (pmk_plain T hg hdb)) fun D σ H ⟨φ, l, m, h1, h2, h3⟩ => ?_⟩
  obtain ⟨pp, hpp, fin⟩ := h3 φ σ H Ext.refl h1 h2
  rw [hL] at hpp
  cases hpp
  exact fin.2 φ H Ext.refl h1
end
end SM
set_option Elab.async false
set_option linter.all false
set_option maxRecDepth 100000
set_option maxHeartbeats 2000000
namespace SM
open PySem PySem.Spec PyProof.Rows L2
section
variable {X : Cx} {pins : List (Addr × Obj)} {σ : L2.St} {H : Hp} {sI : Shared} {B : Heap} {a : Addr} {cls c : Value} {d : Option Addr} {D : Ends} {x n : Str} {i : Nat} {b₀ : Stmt} {suite : List Stmt} {np pos' : Pos} {rest : List ExceptHandler} {b : Bool} {ts : Addr → Value → Option Addr → TS}
/-- an exception that has landed is shown to a named clause -/
theorem hnd_as {s3 : Shared} (ok : X.Ok) (hs : X.stack = X.env :: X.outer) (hf : X.env.frame = some X.env.locals) (hN : X.N.Nodup) (hi : X.N[i]? = some n) (hln : X.env.kindOf n = some .local) (hc : Names X x c)
    (J : Inv X pins σ H sI) (nb : ∀ b o, sI.heap.get? b = some o → b ∉ frs X.stack → B.get? b = some o) (up : sI.heap.UpToSlots s3.heap) (fl : HandSPX.FlyingZ B (X.env :: X.outer) a (Zc cls d) s3.heap) (na : H a = none) (os : s3.os = sI.os) (ag : AllBare s3.gens)
    (hb : PySem.W.exmOne X.K cls c = some b)
    (hsu : ∀ (a : Addr) (oe : Obj) (cls : Value) (d : Option Addr) (pn : List (Addr × Obj)), Zc cls d oe → (∃ vs, oe.data = .fields vs) → PSs (X.suite a ((a, oe) :: pn)) (b₀ :: suite) (ts a cls d))
    (yes : b = true → ts a cls d { nx := fun σ' H' => D.nx (σ'.set i none) H', rt := D.rt, bk := fun σ' H' => D.bk (σ'.set i none) H', ct := fun σ' H' => D.ct (σ'.set i none) H' } (σ.set i (some (.ref a))) H)
    (no : b = false → wpAny (model X.prog X.w) X.A (handleBy (.ref a) X.env rest) (SP X pins D) X.xe s3) :
    wpAny (model X.prog X.w) X.A (handleBy (.ref a) X.env (.ExceptHandler (some (.Name x np)) (some n) (b₀ :: suite) pos' :: rest)) (SP X pins D) X.xe s3 := by
  have fresh : ∀ {h : Heap} {o : Obj} {vs : Array Value}, h.FunFrames B (X.env :: X.outer) → h.get? a = some o → o.data = .fields vs → a ≠ X.env.locals ∧ a ∉ X.fs := fun ff e dd => by
    have out : a ∉ frs (X.env :: X.outer) := fun hm => by
      obtain ⟨_, o2, e2, hnf⟩ := ff.mem hm
      rw [e] at e2
      cases e2
      exact hnf _ dd
    refine ⟨fun z => out (List.mem_filterMap.mpr ⟨X.env, List.mem_cons_self, by rw [hf, z]⟩), fun hm => ?_⟩
    obtain ⟨e2, he2, q2⟩ := List.mem_filterMap.mp hm
    exact out (List.mem_filterMap.mpr ⟨e2, List.mem_cons_of_mem _ he2, q2⟩)
  have into : ∀ {h4 : Heap}, HandSPX.FlyingZ B (X.env :: X.outer) a (Zc cls d) h4 → s3.heap.UpToSlots h4 → ∃ oe, h4.get? a = some oe ∧ Zc cls d oe ∧ (∃ vs, oe.data = .fields vs) ∧ Inv (X.suite a ((a, oe) :: (X.pn ++ pins))) [] σ H { s3 with heap := h4 } := fun {h4} f4 u4 => by
    obtain ⟨oe, vs, he, hz, hd⟩ := f4.there
    have nn := fresh f4.2.2.1 he hd
    exact ⟨oe, he, hz, ⟨vs, hd⟩, (J.landed (s' := { s3 with heap := h4 }) nb f4.1 (up.trans u4) os ag).suite he hd na nn.1 nn.2⟩
  refine wpAny_handleBy_cons (codeAny_handlers_test ?_) (by intro q; cases q)
  obtain ⟨oe, he, hz, hff, S3⟩ := into fl (fun b o e _ => ⟨o.slots, e⟩)
  have S3 : Inv (X.suite a ((a, oe) :: (X.pn ++ pins))) [] σ H s3 := S3
  have asked : wpAny (model X.prog X.w) (X.A.mark (some (.ref a))) (excMatches (.ref a) c) (fun bb s2 => bb = b ∧ s2 = s3) (fun _ _ => False) s3 :=
    (PySem.W.exm_one (M := model X.prog X.w) S3.kIn (fun A Q E s k q => wpAny_typeOf_ref (k _ _ he) (by rw [hz.1]; exact q)) hb).here ⟨rfl, rfl⟩
  have named : ∀ {Q : Value → Shared → Prop} {E : Value → Shared → Prop}, Q c s3 → wpAny (model X.prog X.w) (X.A.mark (some (.ref a))) (eval (.Name x np) X.env) Q E s3 := fun {Q E} q => by
    rcases hc with ⟨c1, c2, c3 | ⟨c3, c4, c5⟩⟩
    · exact ld_glob (X := X.suite a ((a, oe) :: (X.pn ++ pins))) S3 c1 c3 q c2
    · exact ld_blt (X := X.suite a ((a, oe) :: (X.pn ++ pins))) S3 c1 c3 c4 q c5 c2
  refine named (wpAny_mono asked (fun bb s2 hq => ?_) fun _ _ z => z.elim)
  obtain ⟨rfl, rfl⟩ := hq
  cases bb with
  | false => exact no rfl
  | true =>
    refine codeAny_handlers_suite_as (HandSPX.lands_againZ fl fun h4 f4 u4 => ?_)
    obtain ⟨o4, _, z4, d4, S4⟩ := into f4 u4
    refine store_ok (X := X.suite a ((a, o4) :: (X.pn ++ pins))) (v := .ref a) S4 hN hi (.inl hln) rfl (fun s5 S5 => ?_) (.inr hln)
    refine wpAny_mono ((hsu a o4 cls d (X.pn ++ pins) z4 d4).run [] s5 _ H _ S5 (yes rfl)) (fun f s6 q6 => ?_) fun _ _ z => z.elim
    have fin : ∀ {σ6 : L2.St} {H6 : Hp} {Q : Shared → Prop}, Inv (X.suite a ((a, o4) :: (X.pn ++ pins))) [] σ6 H6 s6 → (∀ s7, Inv X pins (σ6.set i none) H6 s7 → Q s7) →
        wpAny (model X.prog X.w) X.A (do bindName X.env n .none; unbindBehindTheSuite X.env n pos') (fun _ s7 => Q s7) X.xe s6 := fun S6 k => gone_ok (S6.unsuite ok) hN hi hln k
    cases f with
    | ret u => obtain ⟨v6, σ6, H6, S6, r6, w6⟩ := q6; exact fin S6 fun s7 J7 => ⟨_, _, _, J7, r6, w6⟩
    | next => obtain ⟨σ6, H6, S6, w6⟩ := q6; exact fin S6 fun s7 J7 => ⟨_, _, J7, w6⟩
    | brk => obtain ⟨σ6, H6, S6, w6⟩ := q6; exact fin S6 fun s7 J7 => ⟨_, _, J7, w6⟩
    | cont => obtain ⟨σ6, H6, S6, w6⟩ := q6; exact fin S6 fun s7 J7 => ⟨_, _, J7, w6⟩
end
section
variable {X : Cx} {x1 x2 n : Str} {c1 c2 : Value} {i : Nat} {body su1 su2 : List Stmt} {b1 b2 : Stmt} {np1 np2 pos pos1 pos2 : Pos} {tb : WX → TS} {ts1 ts2 : Addr → Value → Option Addr → TS}
/-- two named clauses; the second takes what the first does not -/
theorem ps_two (hs : X.stack = X.env :: X.outer) (hf : X.env.frame = some X.env.locals) (hN : X.N.Nodup) (hi : X.N[i]? = some n) (hln : X.env.kindOf n = some .local) (hc1 : Names X x1 c1) (hc2 : Names X x2 c2)
    (hb : ∀ (W : WX) (pn : List (Addr × Obj)) (xe : Value → Shared → Prop), Takes (X.tr pn xe) W → PassesOwn (model X.prog X.w) X.A X.env xe → PSs (X.tr pn xe) body (tb W))
    (h1 : ∀ (a : Addr) (oe : Obj) (cls : Value) (d : Option Addr) (pn : List (Addr × Obj)), Zc cls d oe → (∃ vs, oe.data = .fields vs) → PSs (X.suite a ((a, oe) :: pn)) (b1 :: su1) (ts1 a cls d))
    (h2 : ∀ (a : Addr) (oe : Obj) (cls : Value) (d : Option Addr) (pn : List (Addr × Obj)), Zc cls d oe → (∃ vs, oe.data = .fields vs) → PSs (X.suite a ((a, oe) :: pn)) (b2 :: su2) (ts2 a cls d)) :
    PS X (.Try body [.ExceptHandler (some (.Name x1 np1)) (some n) (b1 :: su1) pos1, .ExceptHandler (some (.Name x2 np2)) (some n) (b2 :: su2) pos2] [] [] pos)
      (fun D σ H => tb (wAs X.K c1 i ts1 (wAs X.K c2 i ts2 (fun _ _ _ _ => False) D) D) D σ H) := by
  refine ⟨fun pins s σ H D I h => wpAny_Try_except ?_⟩
  have ok := I.ok
  have hfr : X.A.frames = some (X.env :: X.outer) := by rw [ok.frames, hs]
  refine wpAny_mono ((hb _ (X.pn ++ pins) (fun e s₁ => wpAny (model X.prog X.w) X.A (noteFrame e X.env) (fun _ s₂ => wpAny (model X.prog X.w) X.A (setFlight e none) (fun _ s₃ =>
    wpAny (model X.prog X.w) X.A (handleBy e X.env [.ExceptHandler (some (.Name x1 np1)) (some n) (b1 :: su1) pos1, .ExceptHandler (some (.Name x2 np2)) (some n) (b2 :: su2) pos2]) (SP X pins D) X.xe s₃) X.xe s₂) X.xe s₁) (fun u s' xx => ?_) PassesOwn.looking).run [] s σ H D (I.toTry _) h) (fun f s1 q => ?_) fun e s1 z => z
  · obtain ⟨a, B, sI, pins', σ', H', cls, d, rfl, J', nb, up, sky, na, os, ag, t1, e1, yes1, no1⟩ := xx
    rw [show X.stack = X.env :: X.outer from hs] at sky
    refine Sky.land Zc.steady hfr hf sky fun h3 fl up3 => ?_
    have J := J'.ofTry (pins := pins) ok
    refine hnd_as ok hs hf hN hi hln hc1 J nb (up.trans up3) fl na os ag e1 h1 (fun z => yes1 z a na) fun z => ?_
    obtain ⟨t2, e2, yes2, no2⟩ := no1 z
    exact hnd_as ok hs hf hN hi hln hc2 J nb (up.trans up3) fl na os ag e2 h2 (fun z => yes2 z a na) fun z => (no2 z).elim
  · cases f with
    | ret u => obtain ⟨v, σ', H', J, r, w⟩ := q; exact ⟨v, σ', H', J.ofTry ok, r, w⟩
    | next => obtain ⟨σ', H', J, w⟩ := q; exact wpAny_execs_nil ⟨σ', H', J.ofTry ok, w⟩
    | brk => obtain ⟨σ', H', J, w⟩ := q; exact ⟨σ', H', J.ofTry ok, w⟩
    | cont => obtain ⟨σ', H', J, w⟩ := q; exact ⟨σ', H', J.ofTry ok, w⟩
end
def CalMX (P : Program) (w : World) (K : PySem.W.Frag) (mg : Str → Option Value) (base : Heap) (C : Addr) (mth : Str) (L : XL) (n k : Nat) (f : FS) : Prop :=
  ∃ (fa : Addr) (fd : FuncData) (ps : List Str), ps.length = n ∧ FnOk P w K mg base (L2.CX P w) k fa fd ps (SpM K L n f) ∧ Meth K C mth fa ∧ Binds K fd ps []
theorem calMX_mk {P : Program} {w : World} {K : PySem.W.Frag} {mg : Str → Option Value} {base : Heap} {C : Addr} {mth : Str} {L : XL} {f : Addr} {fd : FuncData} {ps : List Str} {k n : Nat} {g : FS} (hn : ps.length = n) (G : FnOk P w K mg base (L2.CX P w) k f fd ps (SpM K L n g)) (hm : Meth K C mth f) (hb : Binds K fd ps []) : CalMX P w K mg base C mth L n k g :=
  ⟨f, fd, ps, hn, G, hm, hb⟩
def sMethX (n : Nat) (f : FS) (so : SE) (sa : SA) : SE := fun l m => (so l m).bind fun x m1 => if isIns m1 x = true then (sa l m1).bind fun xs m2 => if xs.length + 1 = n then f (x :: xs) m2 else .bad else .bad
section
variable {X : Cx} {W : XM} {e o : Expr} {es : List Expr} {so : SE} {ses : SA} {C : Addr} {mth x : Str} {n k j : Nat} {f : FS} {p pos apos : Pos} {L : XL} {Wx : WX}
theorem pe_methS {pl : Sem Bool} {CX : CXT} {fa : Addr} {fd : FuncData} {ps : List Str} {sp : Sp} {E : L2.St → XK} {ta : TE} {t : TA} (ho : PE X o ta) (c : Cls X.K C) (hm : Meth X.K C mth fa) (F : FnOk X.prog X.w X.K X.mg X.base CX k fa fd ps sp) (hr : Room k X.A) (hb : Binds X.K fd ps []) (hx : ∀ σ, PassesAt CX X σ (E σ)) (ha : PA X (e :: es) t)
    (hst : starEach (e :: es) X.env = (false, eval e X.env) :: starEach es X.env := by rfl) (hpl : (backTo pos (starEach es X.env)).any (·.1) = false := by rfl)
    (ht : eval (.Call (.Attribute o mth apos) (e :: es) [] pos) X.env = (do
      let ov ← eval o X.env
      standAt apos.atName
      let (f, first) ← holding [ov] (getMethod ov mth pl)
      callWith pos f first (backTo pos (starEach (e :: es) X.env)) (backToKw pos (keywordEach [] X.env))) := by rfl) :
    PE X (.Call (.Attribute o mth apos) (e :: es) [] pos) (fun σ H Q => ta σ H fun v H1 => ∃ a dx fs, v = .ref a ∧ H1 a = some (.ins C dx fs) ∧ fs.lookup mth = none ∧ t σ H1 fun vs H2 => sp (.ref a :: vs) H2 Q (E σ)) := by
  refine ⟨fun pins s σ H Q I h => PySem.W.methodCall_KW (pl := pl) (thn (ho.run pins s σ H _ I h) fun u s1 q => ?_) ht⟩
  obtain ⟨v, H1, I1, rv, a, dx, fs, rfl, ea, l, q⟩ := q
  obtain rfl : u = Value.ref a := rv
  refine getmeth_ok I1 ea c hm l (PySem.W.callWith_K (first := [.ref a]) (h₀ := X.base) I.ok.mod.kin hm.kp (thn (ha.run pos pins s1 σ H1 _ I1 q) fun us s2 q2 => ?_) hst hpl)
  obtain ⟨vs, H2, I2, r, q2⟩ := q2
  exact ⟨I2.kIn, run_fnS (us := .ref a :: us) (vs := .ref a :: vs) F hr hb (hx σ) I2 (.cons rfl r) q2⟩
theorem q_methX {pl : Sem Bool} (B : BkC X.K C) (Cl : CalMX X.prog X.w X.K X.mg X.base C mth L n k f) (hr : Room j X.A) (hk : k ≤ j) (hn : mth ∉ fldN) (tk : Takes X Wx) (ho : QE X (WTm X.K L Wx) o so) (ha : QA X (WTm X.K L Wx) (e :: es) ses)
    (hst : starEach (e :: es) X.env = (false, eval e X.env) :: starEach es X.env := by rfl) (hpl : (backTo pos (starEach es X.env)).any (·.1) = false := by rfl)
    (ht : eval (.Call (.Attribute o mth apos) (e :: es) [] pos) X.env = (do
      let ov ← eval o X.env
      standAt apos.atName
      let (f, first) ← holding [ov] (getMethod ov mth pl)
      callWith pos f first (backTo pos (starEach (e :: es) X.env)) (backToKw pos (keywordEach [] X.env))) := by rfl) :
    QE X (WTm X.K L Wx) (.Call (.Attribute o mth apos) (e :: es) [] pos) (sMethX n f so ses) := by
  obtain ⟨fa, fd, ps, hps, F, hm, hb⟩ := Cl
  refine ⟨pe_imp (pe_methS (E := fun σ => L2.WE Wx σ) (pl := pl) ho.pe B.cl hm F (hr.mono hk) hb (fun σ => passAt tk σ) ha.pa hst hpl ht) fun σ H Q ⟨φ, l, m, h1, h2, h3⟩ => ?_⟩
  refine ⟨φ, l, m, h1, h2, (Post.bind (rel := rV X.K) h2 h3).mono ?_⟩
  rintro v H1 ⟨φ1, x, m1, e1, a1, b1, c1, d1⟩
  by_cases hi : isIns m1 x = true
  · rw [if_pos hi] at d1
    obtain ⟨a, dx, ws, rfl, hh⟩ := isIns_at a1 c1 hi B
    refine ⟨a, dx, _, rfl, hh, zip_none hn, φ1, l, m1, a1, b1, (Post.bind (rel := rA X.K) b1 d1).mono ?_⟩
    rintro vs H2 ⟨φ2, xs, m2, e2, a2, b2, c2, d2⟩
    by_cases hz : xs.length + 1 = n
    · rw [if_pos hz] at d2
      refine ⟨by rw [List.length_cons, RVs.length c2]; exact hz, φ2, m2, x :: xs, a2, ⟨_, _, rfl, RV.ext e2 c1, c2⟩, ?_⟩
      cases hf : f (x :: xs) m2 with
      | ok y m' => rw [hf] at d2; exact d2
      | bad => rw [hf] at d2; exact d2.elim
      | ex c fs m' =>
        rw [hf] at d2
        intro φ3 H3 x3 a3
        obtain ⟨pp, hpp, fin⟩ := d2 φ3 H3 x3 a3
        refine ⟨pp, hpp, ?_⟩
        obtain ⟨C2, of⟩ := pp
        cases of with
        | none => exact ⟨fin.1, fun φ4 H4 x4 a4 => fin.2 φ4 H4 x4 a4 ((b2.ext x3).ext x4)⟩
        | some fn =>
          obtain ⟨y, q1, q2⟩ := fin
          exact ⟨y, q1, fun φ4 H4 d v x4 a4 r4 e4 => q2 φ4 H4 d v x4 a4 ((b2.ext x3).ext x4) r4 e4⟩
    · rw [if_neg hz] at d2; exact d2.elim
  · rw [if_neg hi] at d1; exact d1.elim
/-- .. where it does not -/
theorem q_methX0 {pl : Sem Bool} (B : BkC X.K C) (Cl : CalMX X.prog X.w X.K X.mg X.base C mth L n k f) (hr : Room j X.A) (hk : k ≤ j) (hn : mth ∉ fldN) (ho : QE X W o so) (ha : QA X W (e :: es) ses)
    (hst : starEach (e :: es) X.env = (false, eval e X.env) :: starEach es X.env := by rfl) (hpl : (backTo pos (starEach es X.env)).any (·.1) = false := by rfl)
    (ht : eval (.Call (.Attribute o mth apos) (e :: es) [] pos) X.env = (do
      let ov ← eval o X.env
      standAt apos.atName
      let (f, first) ← holding [ov] (getMethod ov mth pl)
      callWith pos f first (backTo pos (starEach (e :: es) X.env)) (backToKw pos (keywordEach [] X.env))) := by rfl) :
    QE X W (.Call (.Attribute o mth apos) (e :: es) [] pos) (sMethB n f so ses) := by
  obtain ⟨fa, fd, ps, hps, F, hm, hb⟩ := Cl
  refine ⟨pe_imp (pe_methS (E := fun _ => E0) (pl := pl) ho.pe B.cl hm F (hr.mono hk) hb (fun σ pins H s e s' I h => passL pins σ H s e s' I h) ha.pa hst hpl ht) fun σ H Q ⟨φ, l, m, h1, h2, h3⟩ => ?_⟩
  refine ⟨φ, l, m, h1, h2, (Post.bind (rel := rV X.K) h2 h3).mono ?_⟩
  rintro v H1 ⟨φ1, x, m1, e1, a1, b1, c1, d1⟩
  by_cases hi : isIns m1 x = true
  · rw [if_pos hi] at d1
    obtain ⟨a, dx, ws, rfl, hh⟩ := isIns_at a1 c1 hi B
    refine ⟨a, dx, _, rfl, hh, zip_none hn, φ1, l, m1, a1, b1, (Post.bind (rel := rA X.K) b1 d1).mono ?_⟩
    rintro vs H2 ⟨φ2, xs, m2, e2, a2, b2, c2, d2⟩
    by_cases hz : xs.length + 1 = n
    · rw [if_pos hz] at d2
      refine ⟨by rw [List.length_cons, RVs.length c2]; exact hz, φ2, m2, x :: xs, a2, ⟨_, _, rfl, RV.ext e2 c1, c2⟩, ?_⟩
      cases hf : f (x :: xs) m2 with
      | ok y m' => rw [hf] at d2; exact d2
      | ex c fs m' => rw [hf] at d2; exact d2.elim
      | bad => rw [hf] at d2; exact d2.elim
    · rw [if_neg hz] at d2; exact d2.elim
  · rw [if_neg hi] at d1; exact d1.elim
end
def CalBX (P : Program) (w : World) (K : PySem.W.Frag) (mg : Str → Option Value) (base : Heap) (C : Addr) (x : Str) (C2 : Addr) (cn : String) (fn : Str) (n k : Nat) (f : FS) : Prop :=
  ∃ (fa : Addr) (fd : FuncData) (ps : List Str), ps.length = n ∧ FnOk P w K mg base (L2.CX P w) k fa fd ps (SpX K C2 cn fn n f) ∧ Mk K C fa ∧ mg x = some (.ref C) ∧ Binds K fd ps []
def sMakeX (n : Nat) (f : FS) (sa : SA) : SE := fun l m => (sa l m).bind fun xs m1 => if xs.length + 1 = n then (f (.ref m1.length :: xs) (m1 ++ [.ins []])).bind fun y m2 => (match y with
  | .non => .ok (.ref m1.length) m2
  | _ => .bad) else .bad
section
variable {X : Cx} {W : XM} {e : Expr} {es : List Expr} {ses : SA} {C C2 : Addr} {x fn : Str} {cn : String} {n k j : Nat} {f : FS} {p pos : Pos} {Wx : WX}
theorem pe_makeS {CX : CXT} {fa : Addr} {fd : FuncData} {ps : List Str} {sp : Sp} {E : L2.St → XK} {t : TA} (M : Mk X.K C fa) (F : FnOk X.prog X.w X.K X.mg X.base CX k fa fd ps sp) (hr : Room (k + 1) X.A) (hg : Gl X x) (hm : X.mg x = some (.ref C)) (hb : Binds X.K fd ps [])
    (hx : ∀ (σ : L2.St) (pins : List (Addr × Obj)) (H : Hp) (s : Shared) (u : Value) (s' : Shared), Inv X pins σ H s → CX X.stack H s (E σ) u s' → X.xe u s')
    (ha : PA X (e :: es) t) (hdb : (x == ("__debug__" : Str)) = false := by decide) (he : starEach (e :: es) X.env = (false, eval e X.env) :: starEach es X.env := by rfl) (hpl : (backTo pos (starEach es X.env)).any (·.1) = false := by rfl) :
    PE X (.Call (.Name x p) (e :: es) [] pos) (fun σ H Q => t σ H fun vs H1 => ∀ a dx, H1 a = none → H1 dx = none → dx ≠ a → sp (.ref a :: vs) (upd (upd H1 dx (.own a)) a (.ins C dx [])) (fun v H2 => v = .non ∧ Q (.ref a) H2) (E σ)) := by
  refine ⟨fun pins s σ H Q I h => wpAny_Call_Name_kw (ld_glob I hg hm ?_ hdb)⟩
  refine PySem.W.callWith_K (h₀ := X.base) I.ok.mod.kin M.kp (thn (ha.run pos pins s σ H _ I h) fun us s1 q => ?_) he hpl
  obtain ⟨vs, H1, I1, r, q⟩ := q
  refine ⟨I1.kIn, ?_⟩
  have made := Inv.made (C := C) I1
  have hq := q (s1.heap.objs.size + 1) s1.heap.objs.size (I1.hok.fresh (Nat.le_succ _)) (I1.hok.fresh (Nat.le_refl _)) (Nat.ne_of_lt (Nat.lt_succ_self _))
  have r2 : Vals (V.ref (s1.heap.objs.size + 1) :: vs) (Value.ref (s1.heap.objs.size + 1) :: us) := .cons rfl r
  have hlen : (Value.ref (s1.heap.objs.size + 1) :: us).length = ps.length := by rw [← r2.length]; exact F.len _ _ _ _ hq
  have bd := hb _ (Value.ref (s1.heap.objs.size + 1) :: us) made.kIn (by rw [List.append_nil]; exact hlen)
  rw [List.append_nil] at bd
  refine wpAny_call (make_map (f := fa) I1.kIn M.makes M.init (beq_iff_eq.mp M.fn) (codeAny_mono (F.run _ X.stack _ _ ⟨Value.ref (s1.heap.objs.size + 1) :: us, []⟩ _ _ _ (E σ) (hr.make C us []) (made.env0.make C us []) bd r2 hq) fun rr s' w => ?_))
  match rr, w with
  | .error u, w => exact hx σ pins _ _ u s' made w
  | .ok (.ret u), w =>
    obtain ⟨v, H', I3, rv, rfl, q3⟩ := made.after w
    exact ⟨rv, ⟨V.ref (s1.heap.objs.size + 1), H', I3, rfl, q3⟩⟩
  | .ok .next, w => exact False.elim w
  | .ok .brk, w => exact False.elim w
  | .ok .cont, w => exact False.elim w
theorem q_makeX (B : BkC X.K C) (Cl : CalBX X.prog X.w X.K X.mg X.base C x C2 cn fn n k f) (hr : Room j X.A) (hk : k + 1 ≤ j) (hg : Gl X x) (tk : Takes X Wx) (ha : QA X (WTx X.K C2 cn fn Wx) (e :: es) ses) (hdb : (x == ("__debug__" : Str)) = false := by decide)
    (he : starEach (e :: es) X.env = (false, eval e X.env) :: starEach es X.env := by rfl) (hpl : (backTo pos (starEach es X.env)).any (·.1) = false := by rfl) : QE X (WTx X.K C2 cn fn Wx) (.Call (.Name x p) (e :: es) [] pos) (sMakeX n f ses) := by
  obtain ⟨fa, fd, ps, hps, F, M, hm, hb⟩ := Cl
  refine ⟨pe_imp (pe_makeS (E := fun σ => L2.WE Wx σ) M F (hr.mono hk) hg hm hb (fun σ pins H s u s' I c => passAt tk σ pins H s u s' I c) ha.pa hdb he hpl) fun σ H Q ⟨φ, l, m, h1, h2, h3⟩ => ?_⟩
  refine ⟨φ, l, m, h1, h2, (Post.bind (rel := rA X.K) h2 h3).mono ?_⟩
  rintro vs H1 ⟨φ1, xs, m1, e1, a1, b1, c1, d1⟩
  intro a dx n1 n2 ne
  by_cases hz : xs.length + 1 = n
  · rw [if_pos hz] at d1
    obtain ⟨e2, a2, r2⟩ := a1.made B.at_ n1 n2 ne
    refine ⟨by rw [List.length_cons, RVs.length c1]; exact hz, _, _, .ref m1.length :: xs, a2, ⟨_, _, rfl, r2, c1.ext e2⟩, ?_⟩
    cases hf : f (.ref m1.length :: xs) (m1 ++ [.ins []]) with
    | ok y m' =>
      rw [hf] at d1
      intro φ3 H3 v3 e3 a3 r3
      cases y with
      | non =>
        cases r3
        exact ⟨rfl, d1 φ3 H3 _ (e2.trans e3) a3 (RV.ext e3 r2)⟩
      | _ => exact d1.elim
    | ex c fs m' =>
      rw [hf] at d1
      intro φ3 H3 x3 a3
      obtain ⟨y, q1, q2, q3⟩ := d1 φ3 H3 (e2.trans x3) a3
      exact ⟨y, q1, q2, fun φ4 H4 d v x4 a4 r4 e4 => q3 φ4 H4 d v x4 a4 (((b1.ext e2).ext x3).ext x4) r4 e4⟩
    | bad => rw [hf] at d1; exact d1.elim
  · rw [if_neg hz] at d1; exact d1.elim
theorem q_makeX0 (B : BkC X.K C) (Cl : CalBX X.prog X.w X.K X.mg X.base C x C2 cn fn n k f) (hr : Room j X.A) (hk : k + 1 ≤ j) (hg : Gl X x) (ha : QA X W (e :: es) ses) (hdb : (x == ("__debug__" : Str)) = false := by decide)
    (he : starEach (e :: es) X.env = (false, eval e X.env) :: starEach es X.env := by rfl) (hpl : (backTo pos (starEach es X.env)).any (·.1) = false := by rfl) : QE X W (.Call (.Name x p) (e :: es) [] pos) (sMake n f ses) := by
  obtain ⟨fa, fd, ps, hps, F, M, hm, hb⟩ := Cl
  refine ⟨pe_imp (pe_makeS (E := fun _ => E0) M F (hr.mono hk) hg hm hb (fun σ pins H s u s' I c => passL pins σ H s u s' I c) ha.pa hdb he hpl) fun σ H Q ⟨φ, l, m, h1, h2, h3⟩ => ?_⟩
  refine ⟨φ, l, m, h1, h2, (Post.bind (rel := rA X.K) h2 h3).mono ?_⟩
  rintro vs H1 ⟨φ1, xs, m1, e1, a1, b1, c1, d1⟩
  intro a dx n1 n2 ne
  by_cases hz : xs.length + 1 = n
  · rw [if_pos hz] at d1
    obtain ⟨e2, a2, r2⟩ := a1.made B.at_ n1 n2 ne
    refine ⟨by rw [List.length_cons, RVs.length c1]; exact hz, _, _, .ref m1.length :: xs, a2, ⟨_, _, rfl, r2, c1.ext e2⟩, ?_⟩
    cases hf : f (.ref m1.length :: xs) (m1 ++ [.ins []]) with
    | ok y m' =>
      rw [hf] at d1
      intro φ3 H3 v3 e3 a3 r3
      cases y with
      | non =>
        cases r3
        exact ⟨rfl, d1 φ3 H3 _ (e2.trans e3) a3 (RV.ext e3 r2)⟩
      | _ => exact d1.elim
    | ex c fs m' => rw [hf] at d1; exact d1.elim
    | bad => rw [hf] at d1; exact d1.elim
  · rw [if_neg hz] at d1; exact d1.elim
end
def xTryFF (cn1 cn2 : String) (i : Nat) (sb : SS) : SS := fun l m => match sb l m with
  | .ex c [y] l' m' => if (c = cn1 ∨ c = cn2) ∧ i < l'.length then .rt y m' else .bad
  | .ex _ _ _ _ => .bad
  | r => r
def xTryCF (cn1 : String) (t : List Nat) (cn2 : String) (i : Nat) (sb : SS) : SS := fun l m => match sb l m with
  | .ex c [] l' m' => if c = cn1 ∧ i < l'.length then .rt (.str t) m' else .bad
  | .ex c [y] l' m' => if c = cn2 ∧ i < l'.length then .rt y m' else .bad
  | .ex _ _ _ _ => .bad
  | r => r
section
variable {X : Cx} {W : XM} {body : List Stmt} {sb : SS} {x1 x2 n fn1 fn2 : Str} {cn1 cn2 : String} {C1 C2 : Addr} {i : Nat} {np1 np2 p1 p2 p3 q1 q2 q3 pos1 pos2 pos : Pos}
theorem x_tryFF (i : Nat) (hs : X.stack = X.env :: X.outer) (hf : X.env.frame = some X.env.locals) (hN : X.N.Nodup) (hi : X.N[i]? = some n) (hln : X.env.kindOf n = some .local) (T1 : ExcT X.prog X.w X.K X.mg X.base x1 C1 fn1) (T2 : ExcT X.prog X.w X.K X.mg X.base x2 C2 fn2) (hg1 : Gl X x1) (hg2 : Gl X x2)
    (ne : cn1 ≠ cn2) (te : PySem.W.exmOne X.K (.ref C2) (.ref C1) = some false)
    (hb : ∀ (Wx : WX) (pn : List (Addr × Obj)) (xe : Value → Shared → Prop), Takes (X.tr pn xe) Wx → PassesOwn (model X.prog X.w) X.A X.env xe → QSs (X.tr pn xe) (WTm X.K [(cn1, C1, some fn1), (cn2, C2, some fn2)] Wx) body sb)
    (hv : Vis X.env.scope n) (hab1 : attributeBase (.Name n p1) fn1 X.env (eval (.Name n p1) X.env) = eval (.Name n p1) X.env) (hab2 : attributeBase (.Name n q1) fn2 X.env (eval (.Name n q1) X.env) = eval (.Name n q1) X.env) (hdb1 : (x1 == ("__debug__" : Str)) = false := by decide) (hdb2 : (x2 == ("__debug__" : Str)) = false := by decide) (hdn : (n == ("__debug__" : Str)) = false := by decide) (hcd : (n == ("__classdict__" : Str)) = false := by decide) :
    QS X W (.Try body [.ExceptHandler (some (.Name x1 np1)) (some n) [.Return (some (.Attribute (.Name n p1) fn1 p2)) p3] pos1, .ExceptHandler (some (.Name x2 np2)) (some n) [.Return (some (.Attribute (.Name n q1) fn2 q2)) q3] pos2] [] [] pos) (xTryFF cn1 cn2 i sb) :=
  ⟨ps_imp (ps_two (tb := fun Wx => RdS X.K (WTm X.K [(cn1, C1, some fn1), (cn2, C2, some fn2)] Wx) sb) hs hf hN hi hln ⟨hg1, hdb1, .inl T1.gC⟩ ⟨hg2, hdb2, .inl T2.gC⟩ (fun Wx pn xe tk po => (hb Wx pn xe tk po).ps)
    (fun a oe cls d pn hz hff => pss_one (ps_ret (pe_xf T1.xf T1.no hz hff (pe_var (i := i) hi hv hdn hcd) hab1)))
    (fun a oe cls d pn hz hff => pss_one (ps_ret (pe_xf T2.xf T2.no hz hff (pe_var (i := i) hi hv hdn hcd) hab2)))) fun D σ H ⟨φ, l, m, h1, h2, h3⟩ => by
    refine ⟨φ, l, m, h1, h2, ?_⟩
    unfold xTryFF at h3
    cases hsb : sb l m with
    | nx l' m' => rw [hsb] at h3; exact h3
    | rt y m' => rw [hsb] at h3; exact h3
    | bk l' m' => rw [hsb] at h3; exact h3
    | ct l' m' => rw [hsb] at h3; exact h3
    | bad => rw [hsb] at h3; exact h3
    | ex c fs l' m' =>
      rw [hsb] at h3
      match fs, h3 with
      | [], g3 => exact g3.elim
      | [y], g3 =>
        dsimp only at g3
        by_cases hz : (c = cn1 ∨ c = cn2) ∧ i < l'.length
        · rw [if_pos hz] at g3
          intro φ1 σ1 H1 z1 a1 b1
          by_cases hc : c = cn1
          · subst hc
            refine ⟨(C1, some fn1), by simp [List.lookup], y, rfl, fun φ2 H2 d v z2 a2 b2 r2 e2 => ⟨true, T1.te, fun _ a na => ?_, fun z => by cases z⟩⟩
            have hil : i < σ1.length := by rw [← b2.1]; exact hz.2
            exact ⟨.ref a, List.getElem?_set_self hil, rfl, rfl, d, [(fn1, v)], v, rfl, e2, by simp [List.lookup], g3 φ2 H2 v (z1.trans z2) a2 r2⟩
          · obtain rfl : c = cn2 := hz.1.resolve_left hc
            refine ⟨(C2, some fn2), by rw [List.lookup_cons, beq_false_of_ne hc]; simp [List.lookup], y, rfl, fun φ2 H2 d v z2 a2 b2 r2 e2 => ⟨false, te, fun z => (by cases z), fun _ => ⟨true, T2.te, fun _ a na => ?_, fun z => by cases z⟩⟩⟩
            have hil : i < σ1.length := by rw [← b2.1]; exact hz.2
            exact ⟨.ref a, List.getElem?_set_self hil, rfl, rfl, d, [(fn2, v)], v, rfl, e2, by simp [List.lookup], g3 φ2 H2 v (z1.trans z2) a2 r2⟩
        · rw [if_neg hz] at g3; exact g3.elim
      | _ :: _ :: _, g3 => exact g3.elim⟩
theorem x_tryCF {tx : PySem.Str} {j0 : Nat} (i : Nat) (cs : List Nat) (hs : X.stack = X.env :: X.outer) (hf : X.env.frame = some X.env.locals) (hN : X.N.Nodup) (hi : X.N[i]? = some n) (hln : X.env.kindOf n = some .local) (T1 : Exc0T X.K X.mg x1 C1) (T2 : ExcT X.prog X.w X.K X.mg X.base x2 C2 fn2) (hg1 : Gl X x1) (hg2 : Gl X x2)
    (ne : cn1 ≠ cn2) (te : PySem.W.exmOne X.K (.ref C2) (.ref C1) = some false)
    (hb : ∀ (Wx : WX) (pn : List (Addr × Obj)) (xe : Value → Shared → Prop), Takes (X.tr pn xe) Wx → PassesOwn (model X.prog X.w) X.A X.env xe → QSs (X.tr pn xe) (WTm X.K [(cn1, C1, none), (cn2, C2, some fn2)] Wx) body sb)
    (hv : Vis X.env.scope n) (hab2 : attributeBase (.Name n q1) fn2 X.env (eval (.Name n q1) X.env) = eval (.Name n q1) X.env) (hcs : tx.cps.toList = cs := by decide +kernel) (hdb1 : (x1 == ("__debug__" : Str)) = false := by decide) (hdb2 : (x2 == ("__debug__" : Str)) = false := by decide) (hdn : (n == ("__debug__" : Str)) = false := by decide) (hcd : (n == ("__classdict__" : Str)) = false := by decide) :
    QS X W (.Try body [.ExceptHandler (some (.Name x1 np1)) (some n) [.Return (some (.Constant (.str tx) j0 p2)) p3] pos1, .ExceptHandler (some (.Name x2 np2)) (some n) [.Return (some (.Attribute (.Name n q1) fn2 q2)) q3] pos2] [] [] pos) (xTryCF cn1 cs cn2 i sb) :=
  ⟨ps_imp (ps_two (tb := fun Wx => RdS X.K (WTm X.K [(cn1, C1, none), (cn2, C2, some fn2)] Wx) sb) hs hf hN hi hln ⟨hg1, hdb1, .inl T1.gC⟩ ⟨hg2, hdb2, .inl T2.gC⟩ (fun Wx pn xe tk po => (hb Wx pn xe tk po).ps)
    (fun a oe cls d pn hz hff => pss_one (ps_ret pe_str))
    (fun a oe cls d pn hz hff => pss_one (ps_ret (pe_xf T2.xf T2.no hz hff (pe_var (i := i) hi hv hdn hcd) hab2)))) fun D σ H ⟨φ, l, m, h1, h2, h3⟩ => by
    refine ⟨φ, l, m, h1, h2, ?_⟩
    unfold xTryCF at h3
    cases hsb : sb l m with
    | nx l' m' => rw [hsb] at h3; exact h3
    | rt y m' => rw [hsb] at h3; exact h3
    | bk l' m' => rw [hsb] at h3; exact h3
    | ct l' m' => rw [hsb] at h3; exact h3
    | bad => rw [hsb] at h3; exact h3
    | ex c fs l' m' =>
      rw [hsb] at h3
      match fs, h3 with
      | [], g3 =>
        dsimp only at g3
        by_cases hz : c = cn1 ∧ i < l'.length
        · rw [if_pos hz] at g3
          intro φ1 σ1 H1 z1 a1 b1
          refine ⟨(C1, none), by rw [hz.1]; simp [List.lookup], rfl, fun φ2 H2 z2 a2 b2 => ⟨true, T1.te, fun _ a na => ?_, fun z => by cases z⟩⟩
          exact g3 φ2 H2 (.str tx) (z1.trans z2) a2 (by rw [← hcs]; rfl)
        · rw [if_neg hz] at g3; exact g3.elim
      | [y], g3 =>
        dsimp only at g3
        by_cases hz : c = cn2 ∧ i < l'.length
        · rw [if_pos hz] at g3
          intro φ1 σ1 H1 z1 a1 b1
          refine ⟨(C2, some fn2), by rw [hz.1, List.lookup_cons, beq_false_of_ne (Ne.symm ne)]; simp [List.lookup], y, rfl, fun φ2 H2 d v z2 a2 b2 r2 e2 => ⟨false, te, fun z => (by cases z), fun _ => ⟨true, T2.te, fun _ a na => ?_, fun z => by cases z⟩⟩⟩
          have hil : i < σ1.length := by rw [← b2.1]; exact hz.2
          exact ⟨.ref a, List.getElem?_set_self hil, rfl, rfl, d, [(fn2, v)], v, rfl, e2, by simp [List.lookup], g3 φ2 H2 v (z1.trans z2) a2 r2⟩
        · rw [if_neg hz] at g3; exact g3.elim
      | _ :: _ :: _, g3 => exact g3.elim⟩
end
end SM
set_option Elab.async false
set_option linter.all false
set_option maxRecDepth 100000
set_option maxHeartbeats 4000000
namespace Lw
open PySem PySem.Spec PyProof.Rows L2 SM
def clsBody : Stmt → List Stmt
  | .ClassDef _ _ _ b _ _ _ _ _ _ _ => b
  | _ => []
abbrev tabP : Addr := 182
def topS (i : Nat) : Stmt := PySem.Challenge.pw_homingtrue_k44_refused_entries_and_books.main.body.getD i (.Pass ⟨0, 0, 0, 0⟩)
def T_SIZES : List (List Nat × Option PV) := [([99, 108, 111, 99, 107], some (.int 6)), ([115, 108, 105, 112], some (.int 4)), ([115, 116, 97, 107, 101], some (.int 4)), ([116, 114, 97, 110, 115, 102, 101, 114], some (.int 4))]
abbrev s_is_from : Stmt := topS 10
theorem sc_is_from : FnScope ["told", "low", "high"] ["told", "low", "high"] (defScope s_is_from) := ⟨rfl, rfl, rfl, by decide +kernel, rfl, by decide +kernel, by decide +kernel⟩
noncomputable def b_is_from : SS := (xRet (sAndV (sTis "int" (sVar 0)) (sChain lev lev (sVar 1) (sVar 0) (sVar 2))))
noncomputable def f_is_from : FS := fnS 3 3 b_is_from
abbrev s_Book_init : Stmt := (clsBody (topS 27)).getD 0 (.Pass ⟨0, 0, 0, 0⟩)
theorem sc_Book_init : FnScope ["self", "source", "club"] ["self", "source", "club"] (defScope s_Book_init) := ⟨rfl, rfl, rfl, by decide +kernel, rfl, by decide +kernel, by decide +kernel⟩
noncomputable def b_Book_init : SS := (xSeq (xIf (tNotS (tTru (sCallU 3 f_is_from (aCons (sVar 1) (aCons (sC (.int 1)) (aCons (sC (.int 9)) aNil)))))) (xRaise "TooMany" (aCons (sC (.int 9)) aNil)) xNil) (xSeq (xFldS 0 (sVar 0) (sVar 1)) (xSeq (xFldS 1 (sVar 0) (sVar 2)) (xFldS 2 (sVar 0) (sLst aNil)))))
noncomputable def f_Book_init : FS := fnS 3 3 b_Book_init
abbrev s_Book_held : Stmt := (clsBody (topS 27)).getD 4 (.Pass ⟨0, 0, 0, 0⟩)
theorem sc_Book_held : FnScope ["self"] ["self"] (defScope s_Book_held) := ⟨rfl, rfl, rfl, by decide +kernel, rfl, by decide +kernel, by decide +kernel⟩
noncomputable def b_Book_held : SS := (xRet (sCall listv (aCons (sFldE 2 (sVar 0)) aNil)))
noncomputable def f_Book_held : FS := fnS 1 1 b_Book_held
abbrev s_is_number : Stmt := topS 17
theorem sc_is_number : FnScope ["digits"] ["digits"] (defScope s_is_number) := ⟨rfl, rfl, rfl, by decide +kernel, rfl, by decide +kernel, by decide +kernel⟩
noncomputable def b_is_number : SS := (xSeq (xIf (tBool (sOp eqv (sVar 0) (sC (.str [48])))) (xRet (sC (.bl true))) xNil) (xRet (sAndV (sChain lev lev (sC (.int 1)) (sCall lenv (aCons (sVar 0) aNil)) (sC (.int 4))) (sOp nev (sOp ixv (sVar 0) (sC (.int 0))) (sC (.str [48]))))))
noncomputable def f_is_number : FS := fnS 1 1 b_is_number
abbrev s_run_end : Stmt := topS 16
theorem sc_run_end : FnScope ["line", "at", "low", "high", "end"] ["line", "at", "low", "high"] (defScope s_run_end) := ⟨rfl, rfl, rfl, by decide +kernel, rfl, by decide +kernel, by decide +kernel⟩
noncomputable def run_end_l1 : SS := (xAug 4 iaddv (sC (.int 1)))
noncomputable def b_run_end : SS := (xSeq (xSet 4 (sVar 1)) (xSeq (xWhile (tAndS (tBool (sOp ltv (sVar 4) (sCall lenv (aCons (sVar 0) aNil)))) (tBool (sChain lev lev (sVar 2) (sOp ixv (sVar 0) (sVar 4)) (sVar 3)))) (run_end_l1)) (xRet (sVar 4))))
noncomputable def f_run_end : FS := fnS 4 5 b_run_end
abbrev s_token_at : Stmt := topS 15
theorem sc_token_at : FnScope ["line", "at", "end", "digits"] ["line", "at"] (defScope s_token_at) := ⟨rfl, rfl, rfl, by decide +kernel, rfl, by decide +kernel, by decide +kernel⟩
noncomputable def b_token_at : SS := (xSeq (xSet 2 (sCallU 4 f_run_end (aCons (sVar 0) (aCons (sVar 1) (aCons (sC (.str [97])) (aCons (sC (.str [122])) aNil)))))) (xSeq (xIf (tBool (sOp gtv (sVar 2) (sVar 1))) (xRet (sTup (aCons (sIf (tBool (sOp lev (sOp subv (sVar 2) (sVar 1)) (sC (.int 8)))) (sC (.str [119, 111, 114, 100])) (sC (.str [98, 97, 100]))) (aCons (sVar 2) aNil)))) xNil) (xSeq (xSet 2 (sCallU 4 f_run_end (aCons (sVar 0) (aCons (sVar 1) (aCons (sC (.str [48])) (aCons (sC (.str [57])) aNil)))))) (xSeq (xIf (tBool (sOp gtv (sVar 2) (sVar 1))) (xRet (sTup (aCons (sIf (tTru (sCallU 1 f_is_number (aCons (sSl (sVar 0) (oSome (sVar 1)) (oSome (sVar 2))) aNil))) (sC (.str [110, 117, 109, 98, 101, 114])) (sC (.str [98, 97, 100]))) (aCons (sVar 2) aNil)))) xNil) (xSeq (xIf (tBool (sOp eqv (sOp ixv (sVar 0) (sVar 1)) (sC (.str [45])))) (xSeq (xSet 2 (sCallU 4 f_run_end (aCons (sVar 0) (aCons (sOp addv (sVar 1) (sC (.int 1))) (aCons (sC (.str [48])) (aCons (sC (.str [57])) aNil)))))) (xSeq (xSet 3 (sSl (sVar 0) (oSome (sOp addv (sVar 1) (sC (.int 1)))) (oSome (sVar 2)))) (xIf (tAndS (tTru (sCallU 1 f_is_number (aCons (sVar 3) aNil))) (tBool (sOp nev (sVar 3) (sC (.str [48]))))) (xRet (sTup (aCons (sC (.str [110, 117, 109, 98, 101, 114])) (aCons (sVar 2) aNil)))) xNil))) xNil) (xRet (sTup (aCons (sC (.str [98, 97, 100])) (aCons (sOp addv (sVar 1) (sC (.int 1))) aNil)))))))))
noncomputable def f_token_at : FS := fnS 2 4 b_token_at
abbrev s_tokens : Stmt := topS 14
theorem sc_tokens : FnScope ["line", "found", "at", "kind", "end"] ["line"] (defScope s_tokens) := ⟨rfl, rfl, rfl, by decide +kernel, rfl, by decide +kernel, by decide +kernel⟩
noncomputable def tokens_l1 : SS := (xIf (tBool (sOp eqv (sOp ixv (sVar 0) (sVar 2)) (sC (.str [32])))) (xAug 2 iaddv (sC (.int 1))) (xSeq (xAsg (sCallU 2 f_token_at (aCons (sVar 0) (aCons (sVar 2) aNil))) (gTupS 2 (gConsS (gNm 3) (gConsS (gNm 4) gNilS)))) (xSeq (xExpr (sMeth isLst appendv (sVar 1) (aCons (sTup (aCons (sVar 3) (aCons (sSl (sVar 0) (oSome (sVar 2)) (oSome (sVar 4))) aNil))) aNil))) (xSet 2 (sVar 4)))))
noncomputable def b_tokens : SS := (xSeq (xSet 1 (sLst aNil)) (xSeq (xSet 2 (sC (.int 0))) (xSeq (xWhile (tBool (sOp ltv (sVar 2) (sCall lenv (aCons (sVar 0) aNil)))) (tokens_l1)) (xRet (sVar 1)))))
noncomputable def f_tokens : FS := fnS 1 5 b_tokens
abbrev s_is_owner : Stmt := topS 31
theorem sc_is_owner : FnScope ["told"] ["told"] (defScope s_is_owner) := ⟨rfl, rfl, rfl, by decide +kernel, rfl, by decide +kernel, by decide +kernel⟩
noncomputable def b_is_owner : SS := (xRet (sAndV (sIsi "str" (sVar 0)) (sOp eqv (sCallU 1 f_tokens (aCons (sVar 0) aNil)) (sLst (aCons (sTup (aCons (sC (.str [119, 111, 114, 100])) (aCons (sVar 0) aNil))) aNil)))))
noncomputable def f_is_owner : FS := fnS 1 1 b_is_owner
abbrev s_is_race : Stmt := topS 30
theorem sc_is_race : FnScope ["club", "told"] ["club", "told"] (defScope s_is_race) := ⟨rfl, rfl, rfl, by decide +kernel, rfl, by decide +kernel, by decide +kernel⟩
noncomputable def b_is_race : SS := (xRet (sCallU 3 f_is_from (aCons (sVar 1) (aCons (sC (.int 0)) (aCons (sOp subv (sCall lenv (aCons (sOp ixv (sVar 0) (sC (.int 2))) aNil)) (sC (.int 1))) aNil)))))
noncomputable def f_is_race : FS := fnS 2 2 b_is_race
abbrev s_check_clock : Stmt := topS 9
theorem sc_check_clock : FnScope ["club", "clock", "lofts", "_", "races", "race", "loft", "begin", "end", "shown"] ["club", "clock"] (defScope s_check_clock) := ⟨rfl, rfl, rfl, by decide +kernel, rfl, by decide +kernel, by decide +kernel⟩
noncomputable def b_check_clock : SS := (xSeq (xAsg (sVar 0) (gTupS 3 (gConsS (gNm 2) (gConsS (gNm 3) (gConsS (gNm 4) gNilS))))) (xSeq (xAsg (sVar 1) (gTupS 5 (gConsS (gNm 5) (gConsS (gNm 6) (gConsS (gNm 7) (gConsS (gNm 8) (gConsS (gNm 9) gNilS))))))) (xSeq (xIf (tNotS (tTru (sCallU 3 f_is_from (aCons (sVar 5) (aCons (sC (.int 0)) (aCons (sOp subv (sCall lenv (aCons (sVar 4) aNil)) (sC (.int 1))) aNil)))))) (xRaise "BadClock" (aCons (sC (.str [114, 97, 99, 101])) aNil)) xNil) (xSeq (xIf (tNotS (tTru (sCallU 3 f_is_from (aCons (sVar 6) (aCons (sC (.int 0)) (aCons (sOp subv (sCall lenv (aCons (sVar 2) aNil)) (sC (.int 1))) aNil)))))) (xRaise "BadClock" (aCons (sC (.str [108, 111, 102, 116])) aNil)) xNil) (xSeq (xIf (tNotS (tTru (sCallU 3 f_is_from (aCons (sVar 7) (aCons (sC (.int 0)) (aCons (sC (.int 9999)) aNil)))))) (xRaise "BadClock" (aCons (sC (.str [98, 101, 103, 105, 110])) aNil)) xNil) (xSeq (xIf (tNotS (tTru (sCallU 3 f_is_from (aCons (sVar 8) (aCons (sOp addv (sVar 7) (sC (.int 1))) (aCons (sC (.int 9999)) aNil)))))) (xRaise "BadClock" (aCons (sC (.str [101, 110, 100])) aNil)) xNil) (xIf (tNotS (tTru (sCallU 3 f_is_from (aCons (sVar 9) (aCons (sOp addv (sVar 7) (sC (.int 1))) (aCons (sC (.int 9999)) aNil)))))) (xRaise "BadClock" (aCons (sC (.str [115, 104, 111, 119, 110])) aNil)) xNil)))))))
noncomputable def f_check_clock : FS := fnS 2 10 b_check_clock
abbrev s_is_right_clock : Stmt := topS 29
theorem sc_is_right_clock : FnScope ["club", "clock"] ["club", "clock"] (defScope s_is_right_clock) := ⟨rfl, rfl, rfl, by decide +kernel, rfl, by decide +kernel, by decide +kernel⟩
noncomputable def b_is_right_clock : SS := (xSeq (xTryO "BadClock" (xExpr (sCallX 2 f_check_clock (aCons (sVar 0) (aCons (sVar 1) aNil)))) (xRet (sC (.bl false)))) (xRet (sC (.bl true))))
noncomputable def f_is_right_clock : FS := fnS 2 2 b_is_right_clock
abbrev s_is_ring : Stmt := topS 19
theorem sc_is_ring : FnScope ["club", "told", "bird"] ["club", "told"] (defScope s_is_ring) := ⟨rfl, rfl, rfl, by decide +kernel, rfl, by decide +kernel, by decide +kernel⟩
noncomputable def b_is_ring : SS := (xRet (sAndV (sTis "int" (sVar 1)) (sOp inS (sVar 1) (sLc (iSeq (sOp ixv (sVar 0) (sC (.int 1)))) (gNm 2) tYesS (sOp ixv (sVar 2) (sC (.int 0))) [2]))))
noncomputable def f_is_ring : FS := fnS 2 3 b_is_ring
abbrev s_is_right : Stmt := topS 28
theorem sc_is_right : FnScope ["club", "entry", "kind", "_", "ring", "race", "owner", "number"] ["club", "entry"] (defScope s_is_right) := ⟨rfl, rfl, rfl, by decide +kernel, rfl, by decide +kernel, by decide +kernel⟩
noncomputable def b_is_right : SS := (xSeq (xSet 2 (sOp ixv (sVar 1) (sC (.int 0)))) (xSeq (xIf (tOrS (tBool (sOp ninTxv (sVar 2) (sC (.tup [(.str [99, 108, 111, 99, 107]), (.str [115, 108, 105, 112]), (.str [115, 116, 97, 107, 101]), (.str [116, 114, 97, 110, 115, 102, 101, 114])])))) (tBool (sOp nev (sCall lenv (aCons (sVar 1) aNil)) (sUn (kgetv T_SIZES) (sVar 2))))) (xRet (sC (.bl false))) xNil) (xSeq (xIf (tBool (sOp eqv (sVar 2) (sC (.str [99, 108, 111, 99, 107])))) (xRet (sCallU 2 f_is_right_clock (aCons (sVar 0) (aCons (sSl (sVar 1) (oSome (sC (.int 1))) oNone) aNil)))) xNil) (xSeq (xIf (tBool (sOp eqv (sVar 2) (sC (.str [116, 114, 97, 110, 115, 102, 101, 114])))) (xSeq (xAsg (sVar 1) (gTupS 4 (gConsS (gNm 3) (gConsS (gNm 4) (gConsS (gNm 5) (gConsS (gNm 6) gNilS)))))) (xRet (sAndV (sCallU 2 f_is_ring (aCons (sVar 0) (aCons (sVar 4) aNil))) (sAndV (sCallU 2 f_is_race (aCons (sVar 0) (aCons (sVar 5) aNil))) (sCallU 1 f_is_owner (aCons (sVar 6) aNil)))))) xNil) (xSeq (xAsg (sVar 1) (gTupS 4 (gConsS (gNm 3) (gConsS (gNm 5) (gConsS (gNm 4) (gConsS (gNm 7) gNilS)))))) (xSeq (xIf (tOrS (tNotS (tTru (sCallU 2 f_is_race (aCons (sVar 0) (aCons (sVar 5) aNil))))) (tNotS (tTru (sCallU 2 f_is_ring (aCons (sVar 0) (aCons (sVar 4) aNil)))))) (xRet (sC (.bl false))) xNil) (xSeq (xIf (tBool (sOp eqv (sVar 2) (sC (.str [115, 116, 97, 107, 101])))) (xRet (sCallU 3 f_is_from (aCons (sVar 7) (aCons (sC (.int 0)) (aCons (sC (.int 1000)) aNil))))) xNil) (xRet (sOrV (sOp isNv (sVar 7) (sC .non)) (sCallU 3 f_is_from (aCons (sVar 7) (aCons (sC (.int 0)) (aCons (sC (.int 9999)) aNil)))))))))))))
noncomputable def f_is_right : FS := fnS 2 8 b_is_right
abbrev s_Book_tell : Stmt := (clsBody (topS 27)).getD 6 (.Pass ⟨0, 0, 0, 0⟩)
theorem sc_Book_tell : FnScope ["self", "entry", "stamp", "telling"] ["self", "entry"] (defScope s_Book_tell) := ⟨rfl, rfl, rfl, by decide +kernel, rfl, by decide +kernel, by decide +kernel⟩
noncomputable def b_Book_tell : SS := (xSeq (xIf (tNotS (tTru (sCallU 2 f_is_right (aCons (sFldE 1 (sVar 0)) (aCons (sVar 1) aNil))))) (xRaise "BadEvent" (aCons (sOp ixv (sVar 1) (sC (.int 0))) aNil)) xNil) (xSeq (xIf (tBool (sOp gev (sCall lenv (aCons (sFldE 2 (sVar 0)) aNil)) (sC (.int 80)))) (xRaise "TooMany" (aCons (sC (.int 80)) aNil)) xNil) (xSeq (xSet 2 (sOp addv (sC (.int 1)) (sMaxD (aCons (sLc (iSeq (sFldE 2 (sVar 0))) (gNm 3) tYesS (sOp ixv (sVar 3) (sC (.int 0))) [3]) aNil) (aCons (sC (.int 0)) aNil)))) (xSeq (xSet 3 (sTup (aCons (sVar 2) (aCons (sFldE 0 (sVar 0)) (aCons (sVar 1) aNil))))) (xSeq (xExpr (sMeth isLst appendv (sFldE 2 (sVar 0)) (aCons (sVar 3) aNil))) (xRet (sVar 3)))))))
noncomputable def f_Book_tell : FS := fnS 2 4 b_Book_tell
abbrev s_Book_club : Stmt := (clsBody (topS 27)).getD 2 (.Pass ⟨0, 0, 0, 0⟩)
theorem sc_Book_club : FnScope ["self"] ["self"] (defScope s_Book_club) := ⟨rfl, rfl, rfl, by decide +kernel, rfl, by decide +kernel, by decide +kernel⟩
noncomputable def b_Book_club : SS := (xRet (sFldE 1 (sVar 0)))
noncomputable def f_Book_club : FS := fnS 1 1 b_Book_club
abbrev s_Book_tellings : Stmt := (clsBody (topS 27)).getD 3 (.Pass ⟨0, 0, 0, 0⟩)
theorem sc_Book_tellings : FnScope ["self"] ["self"] (defScope s_Book_tellings) := ⟨rfl, rfl, rfl, by decide +kernel, rfl, by decide +kernel, by decide +kernel⟩
noncomputable def b_Book_tellings : SS := (xRet (sSortL tabP "Book.tellings.<locals>.<lambda>" (gLam 1 1 (sTup (aCons (sOp ixv (sVar 0) (sC (.int 0))) (aCons (sOp ixv (sVar 0) (sC (.int 1))) aNil)))) (aCons (sFldE 2 (sVar 0)) aNil)))
noncomputable def f_Book_tellings : FS := fnS 1 1 b_Book_tellings
abbrev s_Book_merge : Stmt := (clsBody (topS 27)).getD 7 (.Pass ⟨0, 0, 0, 0⟩)
theorem sc_Book_merge : FnScope ["self", "other", "entries", "stamp", "source", "entry", "fresh"] ["self", "other"] (defScope s_Book_merge) := ⟨rfl, rfl, rfl, by decide +kernel, rfl, by decide +kernel, by decide +kernel⟩
noncomputable def Book_merge_l1 : SS := (xIf (tBool (sNinT (aCons (sVar 3) (aCons (sVar 4) aNil)) 2)) (xExpr (sMeth isLst appendv (sVar 6) (aCons (sTup (aCons (sVar 3) (aCons (sVar 4) (aCons (sVar 5) aNil)))) aNil))) (xIf (tBool (sOp nev (sOp dgetv (sVar 2) (sTup (aCons (sVar 3) (aCons (sVar 4) aNil)))) (sVar 5))) (xRaise0 "OtherClub") xNil))
noncomputable def b_Book_merge : SS := (xSeq (xIf (tBool (sOp nev (sFldE 1 (sVar 0)) (sMethB 1 f_Book_club (sVar 1) aNil))) (xRaise0 "OtherClub") xNil) (xSeq (xSet 2 (sDcT (iSeq (sFldE 2 (sVar 0))) (gTupS 3 (gConsS (gNm 3) (gConsS (gNm 4) (gConsS (gNm 5) gNilS)))) tYesS (aCons (sVar 3) (aCons (sVar 4) aNil)) (sVar 5) [3, 4, 5])) (xSeq (xSet 6 (sLst aNil)) (xSeq (xFor (iSeq (sMethB 1 f_Book_tellings (sVar 1) aNil)) (gTupS 3 (gConsS (gNm 3) (gConsS (gNm 4) (gConsS (gNm 5) gNilS)))) (Book_merge_l1)) (xSeq (xIf (tBool (sOp gtv (sOp addv (sCall lenv (aCons (sFldE 2 (sVar 0)) aNil)) (sCall lenv (aCons (sVar 6) aNil))) (sC (.int 80)))) (xRaise "TooMany" (aCons (sC (.int 80)) aNil)) xNil) (xSeq (xExpr (sMeth isLst extendv (sFldE 2 (sVar 0)) (aCons (sVar 6) aNil))) (xRet (sCall lenv (aCons (sVar 6) aNil)))))))))
noncomputable def f_Book_merge : FS := fnS 2 7 b_Book_merge
abbrev s_law_cell : Stmt := topS 33
theorem sc_law_cell : FnScope ["script", "k"] ["script", "k"] (defScope s_law_cell) := ⟨rfl, rfl, rfl, by decide +kernel, rfl, by decide +kernel, by decide +kernel⟩
noncomputable def b_law_cell : SS := (xSeq (xIf (tBool (sOp ltv (sVar 1) (sCall lenv (aCons (sVar 0) aNil)))) (xRet (sOp ixv (sVar 0) (sVar 1))) xNil) (xRet (sC (.int 0))))
noncomputable def f_law_cell : FS := fnS 2 2 b_law_cell
abbrev s_law_digits : Stmt := topS 34
theorem sc_law_digits : FnScope ["cell", "k", "most", "digits", "turn", "seed"] ["cell", "k", "most"] (defScope s_law_digits) := ⟨rfl, rfl, rfl, by decide +kernel, rfl, by decide +kernel, by decide +kernel⟩
noncomputable def law_digits_l1 : SS := (xIf (tAndS (tBool (sOp gtv (sVar 0) (sC (.int 0)))) (tBool (sOp ltv (sCall lenv (aCons (sVar 3) aNil)) (sVar 2)))) (xSeq (xExpr (sMeth isLst appendv (sVar 3) (aCons (sOp modv (sCall intv (aCons (sVar 0) aNil)) (sC (.int 1000))) aNil))) (xSet 0 (sOp fdivv (sVar 0) (sC (.int 1000))))) xNil)
noncomputable def law_digits_l2 : SS := (xSeq (xSet 5 (sOp modv (sCall intv (aCons (sOp addv (sOp addv (sOp mulvS (sVar 5) (sC (.int 16807))) (sOp mulvS (sC (.int 7)) (sVar 4))) (sC (.int 1))) aNil)) (sC (.int 2147483647)))) (xExpr (sMeth isLst appendv (sVar 3) (aCons (sOp modv (sCall intv (aCons (sOp fdivv (sVar 5) (sC (.int 997))) aNil)) (sC (.int 1000))) aNil))))
noncomputable def b_law_digits : SS := (xSeq (xSet 3 (sLst aNil)) (xSeq (xIf (tBool (sOp ltv (sVar 0) (sC (.int 0)))) (xSet 0 (sOp subv (sUn negv (sC (.int 1))) (sVar 0))) xNil) (xSeq (xIf (tBool (sOp gev (sVar 0) (sOp powv (sC (.int 10)) (sC (.int 18))))) (xFor (iRng1S (sC (.int 60))) (gNm 4) (law_digits_l1)) (xSeq (xSet 5 (sOp modv (sCall intv (aCons (sOp addv (sOp addv (sOp mulvS (sVar 0) (sC (.int 48271))) (sOp mulvS (sVar 1) (sC (.int 69621)))) (sC (.int 11))) aNil)) (sC (.int 2147483647)))) (xFor (iRng1S (sVar 2)) (gNm 4) (law_digits_l2)))) (xRet (sVar 3)))))
noncomputable def f_law_digits : FS := fnS 3 6 b_law_digits
abbrev s_law_padded : Stmt := topS 35
theorem sc_law_padded : FnScope ["cell", "k", "d", "turn"] ["cell", "k"] (defScope s_law_padded) := ⟨rfl, rfl, rfl, by decide +kernel, rfl, by decide +kernel, by decide +kernel⟩
noncomputable def law_padded_l1 : SS := (xExpr (sMeth isLst appendv (sVar 2) (aCons (sVar 3) aNil)))
noncomputable def b_law_padded : SS := (xSeq (xSet 2 (sCallU 3 f_law_digits (aCons (sVar 0) (aCons (sVar 1) (aCons (sC (.int 20)) aNil))))) (xSeq (xFor (iRng1S (sC (.int 20))) (gNm 3) (law_padded_l1)) (xRet (sVar 2))))
noncomputable def f_law_padded : FS := fnS 2 4 b_law_padded
abbrev s_law_entry : Stmt := topS 37
theorem sc_law_entry : FnScope ["cell", "k", "club", "d", "race", "ring", "start", "kind", "end"] ["cell", "k", "club"] (defScope s_law_entry) := ⟨rfl, rfl, rfl, by decide +kernel, rfl, by decide +kernel, by decide +kernel⟩
noncomputable def b_law_entry : SS := (xSeq (xSet 3 (sCallU 2 f_law_padded (aCons (sVar 0) (aCons (sVar 1) aNil)))) (xSeq (xSet 4 (sOp modv (sCall intv (aCons (sOp ixv (sVar 3) (sC (.int 0))) aNil)) (sCall lenv (aCons (sOp ixv (sVar 2) (sC (.int 2))) aNil)))) (xSeq (xSet 5 (sOp ixv (sOp ixv (sOp ixv (sVar 2) (sC (.int 1))) (sOp modv (sCall intv (aCons (sOp ixv (sVar 3) (sC (.int 1))) aNil)) (sCall lenv (aCons (sOp ixv (sVar 2) (sC (.int 1))) aNil)))) (sC (.int 0)))) (xSeq (xSet 6 (sOp ixv (sOp ixv (sOp ixv (sVar 2) (sC (.int 2))) (sVar 4)) (sC (.int 3)))) (xSeq (xSet 7 (sOp modv (sCall intv (aCons (sOp ixv (sVar 3) (sC (.int 2))) aNil)) (sC (.int 5)))) (xSeq (xIf (tBool (sOp eqv (sVar 7) (sC (.int 0)))) (xSeq (xSet 8 (sOp addv (sOp addv (sVar 6) (sC (.int 40))) (sOp modv (sCall intv (aCons (sOp ixv (sVar 3) (sC (.int 3))) aNil)) (sC (.int 60))))) (xRet (sTup (aCons (sC (.str [99, 108, 111, 99, 107])) (aCons (sVar 4) (aCons (sOp modv (sCall intv (aCons (sOp ixv (sVar 3) (sC (.int 4))) aNil)) (sCall lenv (aCons (sOp ixv (sVar 2) (sC (.int 0))) aNil))) (aCons (sOp subv (sVar 6) (sOp modv (sCall intv (aCons (sOp ixv (sVar 3) (sC (.int 5))) aNil)) (sC (.int 9)))) (aCons (sVar 8) (aCons (sOp addv (sOp subv (sVar 8) (sC (.int 3))) (sOp modv (sCall intv (aCons (sOp ixv (sVar 3) (sC (.int 6))) aNil)) (sC (.int 7)))) aNil))))))))) xNil) (xSeq (xIf (tBool (sOp eqv (sVar 7) (sC (.int 1)))) (xRet (sTup (aCons (sC (.str [115, 116, 97, 107, 101])) (aCons (sVar 4) (aCons (sVar 5) (aCons (sOp modv (sCall intv (aCons (sOp ixv (sVar 3) (sC (.int 3))) aNil)) (sC (.int 50))) aNil)))))) xNil) (xSeq (xIf (tBool (sOp eqv (sVar 7) (sC (.int 2)))) (xRet (sTup (aCons (sC (.str [116, 114, 97, 110, 115, 102, 101, 114])) (aCons (sVar 5) (aCons (sVar 4) (aCons (sOp ixv (sLst (aCons (sC (.str [97, 110, 110])) (aCons (sC (.str [98, 111])) (aCons (sC (.str [99, 121])) aNil)))) (sOp modv (sCall intv (aCons (sOp ixv (sVar 3) (sC (.int 3))) aNil)) (sC (.int 3)))) aNil)))))) xNil) (xRet (sTup (aCons (sC (.str [115, 108, 105, 112])) (aCons (sVar 4) (aCons (sVar 5) (aCons (sOp ixv (sLst (aCons (sOp addv (sVar 6) (sOp modv (sCall intv (aCons (sOp ixv (sVar 3) (sC (.int 3))) aNil)) (sC (.int 90)))) (aCons (sC .non) (aCons (sOp addv (sVar 6) (sOp modv (sCall intv (aCons (sOp ixv (sVar 3) (sC (.int 3))) aNil)) (sC (.int 40)))) aNil)))) (sOp modv (sCall intv (aCons (sOp ixv (sVar 3) (sC (.int 4))) aNil)) (sC (.int 3)))) aNil))))))))))))))
noncomputable def f_law_entry : FS := fnS 3 9 b_law_entry
abbrev s_law_books : Stmt := topS 38
theorem sc_law_books : FnScope ["script", "club", "first", "books", "k", "cell", "who"] ["script", "club", "first"] (defScope s_law_books) := ⟨rfl, rfl, rfl, by decide +kernel, rfl, by decide +kernel, by decide +kernel⟩
noncomputable def law_books_l1 : SS := (xSeq (xSet 5 (sCallU 2 f_law_cell (aCons (sVar 0) (aCons (sVar 4) aNil)))) (xSeq (xSet 6 (sOp modv (sCall intv (aCons (sOp fdivv (sVar 5) (sC (.int 7))) aNil)) (sC (.int 3)))) (xIf (tBool (sOp eqv (sOp modv (sCall intv (aCons (sVar 5) aNil)) (sC (.int 4))) (sC (.int 0)))) (xExpr (sMethB 2 f_Book_merge (sOp ixv (sVar 3) (sVar 6)) (aCons (sOp ixv (sVar 3) (sOp modv (sCall intv (aCons (sOp addv (sOp addv (sVar 6) (sC (.int 1))) (sOp modv (sOp fdivv (sVar 5) (sC (.int 21))) (sC (.int 2)))) aNil)) (sC (.int 3)))) aNil))) (xIf (tBool (sOp ltv (sVar 4) (sCall lenv (aCons (sVar 0) aNil)))) (xExpr (sMethB 2 f_Book_tell (sOp ixv (sVar 3) (sVar 6)) (aCons (sCallU 3 f_law_entry (aCons (sVar 5) (aCons (sVar 4) (aCons (sVar 1) aNil)))) aNil))) xNil))))
noncomputable def b_law_books : SS := (xSeq (xSet 3 (sLc (iRng1S (sC (.int 3))) (gNm 4) tYesS (sMake 3 f_Book_init (aCons (sOp addv (sC (.int 1)) (sVar 4)) (aCons (sVar 1) aNil))) [4])) (xSeq (xFor (iRng2S (sVar 2) (sOp addv (sVar 2) (sC (.int 14)))) (gNm 4) (law_books_l1)) (xRet (sVar 3))))
noncomputable def f_law_books : FS := fnS 3 7 b_law_books
abbrev s_law_club : Stmt := topS 36
theorem sc_law_club : FnScope ["script", "d", "lofts", "k", "birds", "races", "start", "close", "dusk"] ["script"] (defScope s_law_club) := ⟨rfl, rfl, rfl, by decide +kernel, rfl, by decide +kernel, by decide +kernel⟩
noncomputable def law_club_l1 : SS := (xExpr (sMeth isLst appendv (sVar 2) (aCons (sTup (aCons (sOp ixv (sC (.str [97, 98, 99])) (sVar 3)) (aCons (sOp modv (sCall intv (aCons (sOp ixv (sVar 1) (sOp addv (sC (.int 1)) (sVar 3))) aNil)) (sC (.int 4))) (aCons (sOp modv (sCall intv (aCons (sOp ixv (sVar 1) (sOp addv (sC (.int 4)) (sVar 3))) aNil)) (sC (.int 3))) aNil)))) aNil)))
noncomputable def law_club_l2 : SS := (xExpr (sMeth isLst appendv (sVar 4) (aCons (sTup (aCons (sOp addv (sOp addv (sOp mulvS (sC (.int 9)) (sVar 3)) (sC (.int 1))) (sOp modv (sCall intv (aCons (sOp ixv (sVar 1) (sOp addv (sC (.int 8)) (sVar 3))) aNil)) (sC (.int 9)))) (aCons (sOp modv (sCall intv (aCons (sOp fdivv (sOp ixv (sVar 1) (sOp addv (sC (.int 8)) (sVar 3))) (sC (.int 9))) aNil)) (sCall lenv (aCons (sVar 2) aNil))) (aCons (sOp addv (sC (.int 20)) (sVar 3)) aNil)))) aNil)))
noncomputable def law_club_l3 : SS := (xSeq (xSet 6 (sOp addv (sC (.int 300)) (sOp modv (sCall intv (aCons (sOp ixv (sVar 1) (sOp addv (sC (.int 14)) (sVar 3))) aNil)) (sC (.int 200))))) (xSeq (xSet 7 (sOp addv (sOp addv (sVar 6) (sC (.int 1))) (sOp modv (sCall intv (aCons (sOp ixv (sVar 1) (sOp addv (sC (.int 16)) (sVar 3))) aNil)) (sOp ixv (sLst (aCons (sC (.int 90)) (aCons (sC (.int 700)) (aCons (sC (.int 2000)) aNil)))) (sOp modv (sCall intv (aCons (sOp ixv (sVar 1) (sC (.int 18))) aNil)) (sC (.int 3))))))) (xSeq (xSet 8 (sOp ixv (sLst (aCons (sOp subv (sVar 6) (sC (.int 20))) (aCons (sOp addv (sVar 6) (sC (.int 30))) (aCons (sC (.int 1200)) (aCons (sC (.int 0)) aNil))))) (sOp modv (sCall intv (aCons (sOp ixv (sVar 1) (sC (.int 19))) aNil)) (sC (.int 4))))) (xExpr (sMeth isLst appendv (sVar 5) (aCons (sTup (aCons (sOp ixv (sC (.str [112, 113])) (sVar 3)) (aCons (sOp addv (sC (.int 10)) (sOp modv (sCall intv (aCons (sOp ixv (sVar 1) (sOp addv (sC (.int 16)) (sVar 3))) aNil)) (sC (.int 5)))) (aCons (sOp addv (sC (.int 20)) (sVar 3)) (aCons (sVar 6) (aCons (sVar 7) (aCons (sVar 8) (aCons (sOp modv (sOp addv (sVar 8) (sOp modv (sCall intv (aCons (sOp ixv (sVar 1) (sC (.int 18))) aNil)) (sC (.int 700)))) (sC (.int 1440))) aNil)))))))) aNil))))))
noncomputable def b_law_club : SS := (xSeq (xSet 1 (sCallU 2 f_law_padded (aCons (sCallU 2 f_law_cell (aCons (sVar 0) (aCons (sC (.int 0)) aNil))) (aCons (sC (.int 0)) aNil)))) (xSeq (xSet 2 (sLst aNil)) (xSeq (xFor (iRng1S (sOp addv (sC (.int 1)) (sOp modv (sCall intv (aCons (sOp ixv (sVar 1) (sC (.int 0))) aNil)) (sC (.int 3))))) (gNm 3) (law_club_l1)) (xSeq (xSet 4 (sLst aNil)) (xSeq (xFor (iRng1S (sOp addv (sC (.int 1)) (sOp modv (sCall intv (aCons (sOp ixv (sVar 1) (sC (.int 7))) aNil)) (sC (.int 5))))) (gNm 3) (law_club_l2)) (xSeq (xSet 5 (sLst aNil)) (xSeq (xFor (iRng1S (sOp addv (sC (.int 1)) (sOp modv (sCall intv (aCons (sOp ixv (sVar 1) (sC (.int 13))) aNil)) (sC (.int 2))))) (gNm 3) (law_club_l3)) (xRet (sTup (aCons (sCall tuplev (aCons (sVar 2) aNil)) (aCons (sCall tuplev (aCons (sVar 4) aNil)) (aCons (sCall tuplev (aCons (sVar 5) aNil)) aNil))))))))))))
noncomputable def f_law_club : FS := fnS 1 9 b_law_club
abbrev s_law_made : Stmt := topS 41
theorem sc_law_made : FnScope ["source", "club", "e"] ["source", "club"] (defScope s_law_made) := ⟨rfl, rfl, rfl, by decide +kernel, rfl, by decide +kernel, by decide +kernel⟩
noncomputable def b_law_made : SS := (xSeq (xTryA "TooMany" 2 (xExpr (sMakeX 3 f_Book_init (aCons (sVar 0) (aCons (sVar 1) aNil))))) (xRet (sC .non)))
noncomputable def f_law_made : FS := fnS 2 3 b_law_made
abbrev s_law_merged : Stmt := topS 40
theorem sc_law_merged : FnScope ["book", "other", "e"] ["book", "other"] (defScope s_law_merged) := ⟨rfl, rfl, rfl, by decide +kernel, rfl, by decide +kernel, by decide +kernel⟩
noncomputable def b_law_merged : SS := (xSeq (xTryCF "OtherClub" [111, 116, 104, 101, 114] "TooMany" 2 (xExpr (sMethX 2 f_Book_merge (sVar 0) (aCons (sVar 1) aNil)))) (xRet (sC .non)))
noncomputable def f_law_merged : FS := fnS 2 3 b_law_merged
abbrev s_law_told : Stmt := topS 39
theorem sc_law_told : FnScope ["book", "entry", "e"] ["book", "entry"] (defScope s_law_told) := ⟨rfl, rfl, rfl, by decide +kernel, rfl, by decide +kernel, by decide +kernel⟩
noncomputable def b_law_told : SS := (xSeq (xTryFF "BadEvent" "TooMany" 2 (xExpr (sMethX 2 f_Book_tell (sVar 0) (aCons (sVar 1) aNil)))) (xRet (sC .non)))
noncomputable def f_law_told : FS := fnS 2 3 b_law_told
abbrev s_law_wrong : Stmt := topS 42
theorem sc_law_wrong : FnScope ["club", "k", "ring", "races", "start", "rows"] ["club", "k"] (defScope s_law_wrong) := ⟨rfl, rfl, rfl, by decide +kernel, rfl, by decide +kernel, by decide +kernel⟩
noncomputable def b_law_wrong : SS := (xSeq (xSet 2 (sOp ixv (sOp ixv (sOp ixv (sVar 0) (sC (.int 1))) (sC (.int 0))) (sC (.int 0)))) (xSeq (xSet 3 (sCall lenv (aCons (sOp ixv (sVar 0) (sC (.int 2))) aNil))) (xSeq (xSet 4 (sOp ixv (sOp ixv (sOp ixv (sVar 0) (sC (.int 2))) (sC (.int 0))) (sC (.int 3)))) (xSeq (xSet 5 (sLst (aCons (sTup (aCons (sC (.str [115, 108, 105, 112])) (aCons (sVar 3) (aCons (sVar 2) (aCons (sC (.int 5)) aNil))))) (aCons (sTup (aCons (sC (.str [115, 108, 105, 112])) (aCons (sC (.int 0)) (aCons (sC (.int 998)) (aCons (sC .non) aNil))))) (aCons (sTup (aCons (sC (.str [115, 108, 105, 112])) (aCons (sC (.int 0)) (aCons (sVar 2) (aCons (sC (.int 10000)) aNil))))) (aCons (sTup (aCons (sC (.str [115, 108, 105, 112])) (aCons (sC (.int 0)) (aCons (sVar 2) (aCons (sUn negv (sC (.int 1))) aNil))))) (aCons (sTup (aCons (sC (.str [115, 116, 97, 107, 101])) (aCons (sC (.int 0)) (aCons (sVar 2) (aCons (sC (.int 1001)) aNil))))) (aCons (sTup (aCons (sC (.str [115, 116, 97, 107, 101])) (aCons (sVar 3) (aCons (sVar 2) (aCons (sC (.int 5)) aNil))))) (aCons (sTup (aCons (sC (.str [115, 116, 97, 107, 101])) (aCons (sC (.int 0)) (aCons (sC (.int 999)) (aCons (sC (.int 5)) aNil))))) (aCons (sTup (aCons (sC (.str [115, 116, 97, 107, 101])) (aCons (sC (.int 0)) (aCons (sVar 2) (aCons (sUn negv (sC (.int 1))) aNil))))) (aCons (sTup (aCons (sC (.str [116, 114, 97, 110, 115, 102, 101, 114])) (aCons (sC (.int 998)) (aCons (sC (.int 0)) (aCons (sC (.str [97, 110, 110])) aNil))))) (aCons (sTup (aCons (sC (.str [116, 114, 97, 110, 115, 102, 101, 114])) (aCons (sVar 2) (aCons (sVar 3) (aCons (sC (.str [97, 110, 110])) aNil))))) (aCons (sTup (aCons (sC (.str [116, 114, 97, 110, 115, 102, 101, 114])) (aCons (sVar 2) (aCons (sC (.int 0)) (aCons (sC (.str [65, 110, 110])) aNil))))) (aCons (sTup (aCons (sC (.str [116, 114, 97, 110, 115, 102, 101, 114])) (aCons (sVar 2) (aCons (sC (.int 0)) (aCons (sC (.str [97, 98, 99, 100, 101, 102, 103, 104, 105])) aNil))))) (aCons (sTup (aCons (sC (.str [116, 114, 97, 110, 115, 102, 101, 114])) (aCons (sVar 2) (aCons (sC (.int 0)) (aCons (sC (.str [])) aNil))))) (aCons (sTup (aCons (sC (.str [99, 108, 111, 99, 107])) (aCons (sC (.int 0)) (aCons (sCall lenv (aCons (sOp ixv (sVar 0) (sC (.int 0))) aNil)) (aCons (sVar 4) (aCons (sOp addv (sVar 4) (sC (.int 9))) (aCons (sOp addv (sVar 4) (sC (.int 9))) aNil))))))) (aCons (sTup (aCons (sC (.str [99, 108, 111, 99, 107])) (aCons (sC (.int 0)) (aCons (sC (.int 0)) (aCons (sVar 4) (aCons (sVar 4) (aCons (sOp addv (sVar 4) (sC (.int 9))) aNil))))))) (aCons (sTup (aCons (sC (.str [99, 108, 111, 99, 107])) (aCons (sC (.int 0)) (aCons (sC (.int 0)) (aCons (sVar 4) (aCons (sOp addv (sVar 4) (sC (.int 9))) (aCons (sVar 4) aNil))))))) (aCons (sTup (aCons (sC (.str [115, 108, 105, 112])) (aCons (sUn negv (sC (.int 1))) (aCons (sVar 2) (aCons (sC (.int 5)) aNil))))) (aCons (sTup (aCons (sC (.str [115, 116, 97, 107, 101])) (aCons (sUn negv (sC (.int 1))) (aCons (sVar 2) (aCons (sC (.int 5)) aNil))))) (aCons (sTup (aCons (sC (.str [116, 114, 97, 110, 115, 102, 101, 114])) (aCons (sVar 2) (aCons (sUn negv (sC (.int 1))) (aCons (sC (.str [97, 110, 110])) aNil))))) aNil))))))))))))))))))))) (xRet (sOp ixv (sVar 5) (sOp modv (sCall intv (aCons (sVar 1) aNil)) (sC (.int 19)))))))))
noncomputable def f_law_wrong : FS := fnS 2 6 b_law_wrong
abbrev s_law : Stmt := topS 43
theorem sc_law : FnScope ["script", "club", "book", "before", "k", "wrong", "ring", "stranger", "full", "many", "false", "turn"] ["script"] (defScope s_law) := ⟨rfl, rfl, rfl, by decide +kernel, rfl, by decide +kernel, by decide +kernel⟩
noncomputable def law_l1 : SS := (xSeq (xSet 5 (sCallU 2 f_law_wrong (aCons (sVar 1) (aCons (sCallU 2 f_law_cell (aCons (sVar 0) (aCons (sVar 4) aNil))) aNil)))) (xIf (tOrS (tBool (sOp nev (sCallU 2 f_law_told (aCons (sVar 2) (aCons (sVar 5) aNil))) (sOp ixv (sVar 5) (sC (.int 0))))) (tBool (sOp nev (sMethB 1 f_Book_held (sVar 2) aNil) (sVar 3)))) (xRet (sC (.bl false))) xNil))
noncomputable def law_l2 : SS := (xIf (tBool (sOp notNv (sCallU 2 f_law_told (aCons (sVar 8) (aCons (sTup (aCons (sC (.str [115, 116, 97, 107, 101])) (aCons (sC (.int 0)) (aCons (sVar 6) (aCons (sOp modv (sCall intv (aCons (sVar 4) aNil)) (sC (.int 9))) aNil))))) aNil))) (sC .non))) (xRet (sC (.bl false))) xNil)
noncomputable def law_l3 : SS := (xExpr (sMethB 2 f_Book_tell (sVar 10) (aCons (sTup (aCons (sC (.str [115, 116, 97, 107, 101])) (aCons (sC (.int 0)) (aCons (sVar 6) (aCons (sC (.int 999)) aNil))))) aNil)))
noncomputable def law_l4 : SS := (xSeq (xSet 10 (sMake 3 f_Book_init (aCons (sOp ixv (sOp ixv (sVar 3) (sUn negv (sC (.int 1)))) (sC (.int 1))) (aCons (sVar 1) aNil)))) (xSeq (xFor (iRng1S (sVar 9)) (gNm 11) (law_l3)) (xIf (tOrS (tBool (sOp nev (sCallU 2 f_law_merged (aCons (sVar 2) (aCons (sVar 10) aNil))) (sC (.str [111, 116, 104, 101, 114])))) (tBool (sOp nev (sMethB 1 f_Book_held (sVar 2) aNil) (sVar 3)))) (xRet (sC (.bl false))) xNil)))
noncomputable def b_law : SS := (xSeq (xSet 1 (sCallU 1 f_law_club (aCons (sVar 0) aNil))) (xSeq (xSet 2 (sOp ixv (sCallU 3 f_law_books (aCons (sVar 0) (aCons (sVar 1) (aCons (sC (.int 4)) aNil)))) (sOp modv (sCall intv (aCons (sCallU 2 f_law_cell (aCons (sVar 0) (aCons (sC (.int 20)) aNil))) aNil)) (sC (.int 3))))) (xSeq (xSet 3 (sMethB 1 f_Book_held (sVar 2) aNil)) (xSeq (xFor (iRng2S (sC (.int 21)) (sC (.int 26))) (gNm 4) (law_l1)) (xSeq (xIf (tOrS (tBool (sOp nev (sCallU 2 f_law_made (aCons (sC (.int 0)) (aCons (sVar 1) aNil))) (sC (.int 9)))) (tOrS (tBool (sOp nev (sCallU 2 f_law_made (aCons (sC (.int 10)) (aCons (sVar 1) aNil))) (sC (.int 9)))) (tBool (sOp notNv (sCallU 2 f_law_made (aCons (sC (.int 9)) (aCons (sVar 1) aNil))) (sC .non))))) (xRet (sC (.bl false))) xNil) (xSeq (xSet 6 (sOp ixv (sOp ixv (sOp ixv (sVar 1) (sC (.int 1))) (sC (.int 0))) (sC (.int 0)))) (xSeq (xSet 7 (sMake 3 f_Book_init (aCons (sC (.int 4)) (aCons (sTup (aCons (sOp ixv (sVar 1) (sC (.int 0))) (aCons (sOp addv (sSl (sOp ixv (sVar 1) (sC (.int 1))) oNone (oSome (sC (.int 1)))) (sTup (aCons (sTup (aCons (sC (.int 997)) (aCons (sC (.int 0)) (aCons (sC (.int 1)) aNil)))) aNil))) (aCons (sOp ixv (sVar 1) (sC (.int 2))) aNil)))) aNil)))) (xSeq (xIf (tOrS (tBool (sOp nev (sCallU 2 f_law_merged (aCons (sVar 2) (aCons (sVar 7) aNil))) (sC (.str [111, 116, 104, 101, 114])))) (tBool (sOp nev (sMethB 1 f_Book_held (sVar 2) aNil) (sVar 3)))) (xRet (sC (.bl false))) xNil) (xSeq (xSet 8 (sMake 3 f_Book_init (aCons (sC (.int 5)) (aCons (sVar 1) aNil)))) (xSeq (xFor (iRng1S (sC (.int 80))) (gNm 4) (law_l2)) (xSeq (xIf (tOrS (tBool (sOp nev (sCallU 2 f_law_told (aCons (sVar 8) (aCons (sTup (aCons (sC (.str [115, 116, 97, 107, 101])) (aCons (sC (.int 0)) (aCons (sVar 6) (aCons (sC (.int 3)) aNil))))) aNil))) (sC (.int 80)))) (tBool (sOp nev (sCall lenv (aCons (sMethB 1 f_Book_held (sVar 8) aNil) aNil)) (sC (.int 80))))) (xRet (sC (.bl false))) xNil) (xSeq (xSet 5 (sCallU 2 f_law_wrong (aCons (sVar 1) (aCons (sCallU 2 f_law_cell (aCons (sVar 0) (aCons (sC (.int 21)) aNil))) aNil)))) (xSeq (xIf (tBool (sOp nev (sCallU 2 f_law_told (aCons (sVar 8) (aCons (sVar 5) aNil))) (sOp ixv (sVar 5) (sC (.int 0))))) (xRet (sC (.bl false))) xNil) (xSeq (xIf (tBool (sOp gtv (sCall lenv (aCons (sVar 3) aNil)) (sC (.int 0)))) (xSeq (xIf (tOrS (tBool (sOp nev (sCallU 2 f_law_merged (aCons (sVar 2) (aCons (sVar 8) aNil))) (sC (.int 80)))) (tBool (sOp nev (sMethB 1 f_Book_held (sVar 2) aNil) (sVar 3)))) (xRet (sC (.bl false))) xNil) (xSeq (xFor (iSeq (sLst (aCons (sOp ixv (sOp ixv (sVar 3) (sUn negv (sC (.int 1)))) (sC (.int 0))) (aCons (sC (.int 80)) aNil)))) (gNm 9) (law_l4)) (xRet (sC (.bl true))))) xNil) (xRet (sOp isNv (sCallU 2 f_law_merged (aCons (sVar 2) (aCons (sVar 8) aNil))) (sC .non)))))))))))))))))
noncomputable def f_law : FS := fnS 1 12 b_law
abbrev s_init_TooMany : Stmt := (clsBody (topS 6)).getD 0 (.Pass ⟨0, 0, 0, 0⟩)
theorem sc_init_TooMany : FnScope ["self", "limit"] ["self", "limit"] (defScope s_init_TooMany) := ⟨rfl, rfl, rfl, by decide +kernel, rfl, by decide +kernel, by decide +kernel⟩
abbrev s_init_BadClock : Stmt := (clsBody (topS 3)).getD 0 (.Pass ⟨0, 0, 0, 0⟩)
theorem sc_init_BadClock : FnScope ["self", "word"] ["self", "word"] (defScope s_init_BadClock) := ⟨rfl, rfl, rfl, by decide +kernel, rfl, by decide +kernel, by decide +kernel⟩
abbrev s_init_BadEvent : Stmt := (clsBody (topS 4)).getD 0 (.Pass ⟨0, 0, 0, 0⟩)
theorem sc_init_BadEvent : FnScope ["self", "word"] ["self", "word"] (defScope s_init_BadEvent) := ⟨rfl, rfl, rfl, by decide +kernel, rfl, by decide +kernel, by decide +kernel⟩
section
variable {P : Program} {w : World} {K : PySem.W.Frag} {mg : Str → Option Value} {base : Heap}
theorem ok_is_from {f : Addr} {fd : FuncData} (F : Fun K "is_from" "is_from" s_is_from f fd) (m_type : mg "type" = none) (m_int : mg "int" = none) : FnOk P w K mg base CX0 1 f fd ["told", "low", "high"] (SpQ K 3 f_is_from) :=
  okQ F sc_is_from b_is_from fun cdv A outer s H E hr => by
    have nd := sc_is_from.nd
    exact (x_one (x_ret (q_and (q_tis (T := "int") (by rfl) m_type (by rfl) m_int (by decide +kernel) (q_var 0) (nomark _)) (q_bo1 (q_chain o_le o_le (q_var 1) (q_var 0) (q_var 2))))))
theorem ok_Book_init {f : Addr} {fd : FuncData} (F : Fun K "__init__" "Book.__init__" s_Book_init f fd) {C_Book : Addr} (BK : BkC K C_Book) {C_TooMany : Addr} (T_TooMany : ExcT P w K mg base "TooMany" C_TooMany "limit") (C_is_from : Cal P w K mg base "is_from" 3 1 f_is_from) {t_MOST_SOURCES : Tok} (m_MOST_SOURCES : mg "MOST_SOURCES" = some (.int 9 t_MOST_SOURCES)) : FnOk P w K mg base (L2.CX P w) 3 f fd ["self", "source", "club"] (SpX K C_TooMany "TooMany" "limit" 3 f_Book_init) :=
  okXQ F sc_Book_init b_Book_init fun cdv A outer s H E hr => by
    have nd := sc_Book_init.nd
    exact (x_cons (x_if (t_not (t_val (q_call C_is_from hr (by decide) (by rfl) (a_cons (q_var 1) (a_cons q_int (a_cons (q_globI (by rfl) m_MOST_SOURCES) a_nil)))))) (x_one (x_raise rfl T_TooMany (hr.mono (by decide)) (takes_of rfl rfl rfl rfl) (a_cons (q_globI (by rfl) m_MOST_SOURCES) a_nil) (by rfl))) x_nil) (x_cons (x_fldS BK (i := 0) rfl (q_var 0) (q_var 1)) (x_cons (x_fldS BK (i := 1) rfl (q_var 0) (q_var 2)) (x_one (x_fldS BK (i := 2) rfl (q_var 0) (q_lst a_nil))))))
theorem ok_Book_held {f : Addr} {fd : FuncData} (F : Fun K "held" "Book.held" s_Book_held f fd) {C_Book : Addr} (BK : BkC K C_Book) (m_list : mg "list" = none) : FnOk P w K mg base CX0 1 f fd ["self"] (SpQ K 1 f_Book_held) :=
  okQ F sc_Book_held b_Book_held fun cdv A outer s H E hr => by
    have nd := sc_Book_held.nd
    exact (x_one (x_ret (q_callTy c_list (by rfl) m_list (by decide +kernel) (a_cons (q_fld BK (i := 2) rfl (q_var 0)) a_nil))))
theorem ok_is_number {f : Addr} {fd : FuncData} (F : Fun K "is_number" "is_number" s_is_number f fd) (m_len : mg "len" = none) {t_LONGEST_NUMBER : Tok} (m_LONGEST_NUMBER : mg "LONGEST_NUMBER" = some (.int 4 t_LONGEST_NUMBER)) : FnOk P w K mg base CX0 1 f fd ["digits"] (SpQ K 1 f_is_number) :=
  okQ F sc_is_number b_is_number fun cdv A outer s H E hr => by
    have nd := sc_is_number.nd
    exact (x_cons (x_if (t_cmp (o_eq hr) (q_var 0) (q_strc [48]) (nomark _)) (x_one (x_ret q_bl)) x_nil) (x_one (x_ret (q_and (q_chain o_le o_le q_int (q_callB c_len (by rfl) m_len PySem.boot_len (a_cons (q_var 0) a_nil)) (q_globI (by rfl) m_LONGEST_NUMBER)) (q_bo1 (q_cmp (o_ne hr) (q_ix (q_var 0) q_int (fun _ _ => rfl)) (q_strc [48]) (nomark _)))))))
theorem ok_run_end {f : Addr} {fd : FuncData} (F : Fun K "run_end" "run_end" s_run_end f fd) (m_len : mg "len" = none) : FnOk P w K mg base CX0 1 f fd ["line", "at", "low", "high"] (SpQ K 4 f_run_end) :=
  okQ F sc_run_end b_run_end fun cdv A outer s H E hr => by
    have nd := sc_run_end.nd
    exact (x_cons (x_set 4 nd (q_var 1)) (x_cons (x_while PassesOwn.never (t_w (w_and (t_cmp o_lt (q_var 4) (q_callB c_len (by rfl) m_len PySem.boot_len (a_cons (q_var 0) a_nil)) (nomark _)) (w_and1 (t_chain o_le o_le (q_var 2) (q_ix (q_var 0) (q_var 4) (fun _ _ => rfl)) (q_var 3))))) (x_one (x_aug 4 nd ia_add q_int))) (x_one (x_ret (q_var 4)))))
theorem ok_token_at {f : Addr} {fd : FuncData} (F : Fun K "token_at" "token_at" s_token_at f fd) (C_run_end : Cal P w K mg base "run_end" 4 1 f_run_end) (C_is_number : Cal P w K mg base "is_number" 1 1 f_is_number) {t_LONGEST_WORD : Tok} (m_LONGEST_WORD : mg "LONGEST_WORD" = some (.int 8 t_LONGEST_WORD)) : FnOk P w K mg base CX0 2 f fd ["line", "at"] (SpQ K 2 f_token_at) :=
  okQ F sc_token_at b_token_at fun cdv A outer s H E hr => by
    have nd := sc_token_at.nd
    exact (x_cons (x_set 2 nd (q_call C_run_end hr (by decide) (by rfl) (a_cons (q_var 0) (a_cons (q_var 1) (a_cons (q_strc [97]) (a_cons (q_strc [122]) a_nil)))))) (x_cons (x_if (t_cmp o_gt (q_var 2) (q_var 1) (nomark _)) (x_one (x_ret (q_tup (a_cons (q_ifx (t_cmp o_le (q_bin o_sub (q_var 2) (q_var 1)) (q_globI (by rfl) m_LONGEST_WORD) (nomark _)) (q_strc [119, 111, 114, 100]) (q_strc [98, 97, 100])) (a_cons (q_var 2) a_nil))))) x_nil) (x_cons (x_set 2 nd (q_call C_run_end hr (by decide) (by rfl) (a_cons (q_var 0) (a_cons (q_var 1) (a_cons (q_strc [48]) (a_cons (q_strc [57]) a_nil)))))) (x_cons (x_if (t_cmp o_gt (q_var 2) (q_var 1) (nomark _)) (x_one (x_ret (q_tup (a_cons (q_ifx (t_val (q_call C_is_number hr (by decide) (by rfl) (a_cons (q_slice (q_var 0) (p_some (q_var 1)) (p_some (q_var 2))) a_nil))) (q_strc [110, 117, 109, 98, 101, 114]) (q_strc [98, 97, 100])) (a_cons (q_var 2) a_nil))))) x_nil) (x_cons (x_if (t_cmp (o_eq hr) (q_ix (q_var 0) (q_var 1) (fun _ _ => rfl)) (q_strc [45]) (nomark _)) (x_cons (x_set 2 nd (q_call C_run_end hr (by decide) (by rfl) (a_cons (q_var 0) (a_cons (q_bin o_add (q_var 1) q_int) (a_cons (q_strc [48]) (a_cons (q_strc [57]) a_nil)))))) (x_cons (x_set 3 nd (q_slice (q_var 0) (p_some (q_bin o_add (q_var 1) q_int)) (p_some (q_var 2)))) (x_one (x_if (t_w (w_and (t_val (q_call C_is_number hr (by decide) (by rfl) (a_cons (q_var 3) a_nil))) (w_and1 (t_cmp (o_ne hr) (q_var 3) (q_strc [48]) (nomark _))))) (x_one (x_ret (q_tup (a_cons (q_strc [110, 117, 109, 98, 101, 114]) (a_cons (q_var 2) a_nil))))) x_nil)))) x_nil) (x_one (x_ret (q_tup (a_cons (q_strc [98, 97, 100]) (a_cons (q_bin o_add (q_var 1) q_int) a_nil))))))))))
theorem ok_tokens {f : Addr} {fd : FuncData} (F : Fun K "tokens" "tokens" s_tokens f fd) (C_token_at : Cal P w K mg base "token_at" 2 2 f_token_at) (m_len : mg "len" = none) : FnOk P w K mg base CX0 3 f fd ["line"] (SpQ K 1 f_tokens) :=
  okQ F sc_tokens b_tokens fun cdv A outer s H E hr => by
    have nd := sc_tokens.nd
    exact (x_cons (x_set 1 nd (q_lst a_nil)) (x_cons (x_set 2 nd q_int) (x_cons (x_while PassesOwn.never (t_cmp o_lt (q_var 2) (q_callB c_len (by rfl) m_len PySem.boot_len (a_cons (q_var 0) a_nil)) (nomark _)) (x_one (x_if (t_cmp (o_eq hr) (q_ix (q_var 0) (q_var 2) (fun _ _ => rfl)) (q_strc [32]) (nomark _)) (x_one (x_aug 2 nd ia_add q_int)) (x_cons (x_asg (q_call C_token_at hr (by decide) (by rfl) (a_cons (q_var 0) (a_cons (q_var 2) a_nil))) (g_tup (n := 2) rfl (gs_cons (g_name 3 nd) (gs_cons (g_name 4 nd) gs_nil)))) (x_cons (x_expr (q_m ty_list PySem.F.plainAttrs_list PySem.F.slot_list_append PySem.F.type_list_append m_append (q_var 1) (a_cons (q_tup (a_cons (q_var 3) (a_cons (q_slice (q_var 0) (p_some (q_var 2)) (p_some (q_var 4))) a_nil))) a_nil))) (x_one (x_set 2 nd (q_var 4)))))))) (x_one (x_ret (q_var 1))))))
theorem ok_is_owner {f : Addr} {fd : FuncData} (F : Fun K "is_owner" "is_owner" s_is_owner f fd) (C_tokens : Cal P w K mg base "tokens" 1 3 f_tokens) (m_isinstance : mg "isinstance" = none) (m_str : mg "str" = none) : FnOk P w K mg base CX0 4 f fd ["told"] (SpQ K 1 f_is_owner) :=
  okQ F sc_is_owner b_is_owner fun cdv A outer s H E hr => by
    have nd := sc_is_owner.nd
    exact (x_one (x_ret (q_and (q_isi (T := "str") (by decide) (by rfl) m_isinstance (by rfl) m_str (by decide +kernel) (q_var 0)) (q_bo1 (q_cmp (o_eq hr) (q_call C_tokens hr (by decide) (by rfl) (a_cons (q_var 0) a_nil)) (q_lst (a_cons (q_tup (a_cons (q_strc [119, 111, 114, 100]) (a_cons (q_var 0) a_nil))) a_nil)) (nomark _))))))
theorem ok_is_race {f : Addr} {fd : FuncData} (F : Fun K "is_race" "is_race" s_is_race f fd) (C_is_from : Cal P w K mg base "is_from" 3 1 f_is_from) (m_len : mg "len" = none) : FnOk P w K mg base CX0 2 f fd ["club", "told"] (SpQ K 2 f_is_race) :=
  okQ F sc_is_race b_is_race fun cdv A outer s H E hr => by
    have nd := sc_is_race.nd
    exact (x_one (x_ret (q_call C_is_from hr (by decide) (by rfl) (a_cons (q_var 1) (a_cons q_int (a_cons (q_bin o_sub (q_callB c_len (by rfl) m_len PySem.boot_len (a_cons (q_ix (q_var 0) q_int (fun _ _ => rfl)) a_nil)) q_int) a_nil))))))
theorem ok_check_clock {f : Addr} {fd : FuncData} (F : Fun K "check_clock" "check_clock" s_check_clock f fd) {C_BadClock : Addr} (T_BadClock : ExcT P w K mg base "BadClock" C_BadClock "word") (C_is_from : Cal P w K mg base "is_from" 3 1 f_is_from) (m_len : mg "len" = none) {t_LAST_MINUTE : Tok} (m_LAST_MINUTE : mg "LAST_MINUTE" = some (.int 9999 t_LAST_MINUTE)) : FnOk P w K mg base (L2.CX P w) 3 f fd ["club", "clock"] (SpX K C_BadClock "BadClock" "word" 2 f_check_clock) :=
  okXQ F sc_check_clock b_check_clock fun cdv A outer s H E hr => by
    have nd := sc_check_clock.nd
    exact (x_cons (x_asg (q_var 0) (g_tup (n := 3) rfl (gs_cons (g_name 2 nd) (gs_cons (g_name 3 nd) (gs_cons (g_name 4 nd) gs_nil))))) (x_cons (x_asg (q_var 1) (g_tup (n := 5) rfl (gs_cons (g_name 5 nd) (gs_cons (g_name 6 nd) (gs_cons (g_name 7 nd) (gs_cons (g_name 8 nd) (gs_cons (g_name 9 nd) gs_nil))))))) (x_cons (x_if (t_not (t_val (q_call C_is_from hr (by decide) (by rfl) (a_cons (q_var 5) (a_cons q_int (a_cons (q_bin o_sub (q_callB c_len (by rfl) m_len PySem.boot_len (a_cons (q_var 4) a_nil)) q_int) a_nil)))))) (x_one (x_raise rfl T_BadClock (hr.mono (by decide)) (takes_of rfl rfl rfl rfl) (a_cons (q_strc [114, 97, 99, 101]) a_nil) (by rfl))) x_nil) (x_cons (x_if (t_not (t_val (q_call C_is_from hr (by decide) (by rfl) (a_cons (q_var 6) (a_cons q_int (a_cons (q_bin o_sub (q_callB c_len (by rfl) m_len PySem.boot_len (a_cons (q_var 2) a_nil)) q_int) a_nil)))))) (x_one (x_raise rfl T_BadClock (hr.mono (by decide)) (takes_of rfl rfl rfl rfl) (a_cons (q_strc [108, 111, 102, 116]) a_nil) (by rfl))) x_nil) (x_cons (x_if (t_not (t_val (q_call C_is_from hr (by decide) (by rfl) (a_cons (q_var 7) (a_cons q_int (a_cons (q_globI (by rfl) m_LAST_MINUTE) a_nil)))))) (x_one (x_raise rfl T_BadClock (hr.mono (by decide)) (takes_of rfl rfl rfl rfl) (a_cons (q_strc [98, 101, 103, 105, 110]) a_nil) (by rfl))) x_nil) (x_cons (x_if (t_not (t_val (q_call C_is_from hr (by decide) (by rfl) (a_cons (q_var 8) (a_cons (q_bin o_add (q_var 7) q_int) (a_cons (q_globI (by rfl) m_LAST_MINUTE) a_nil)))))) (x_one (x_raise rfl T_BadClock (hr.mono (by decide)) (takes_of rfl rfl rfl rfl) (a_cons (q_strc [101, 110, 100]) a_nil) (by rfl))) x_nil) (x_one (x_if (t_not (t_val (q_call C_is_from hr (by decide) (by rfl) (a_cons (q_var 9) (a_cons (q_bin o_add (q_var 7) q_int) (a_cons (q_globI (by rfl) m_LAST_MINUTE) a_nil)))))) (x_one (x_raise rfl T_BadClock (hr.mono (by decide)) (takes_of rfl rfl rfl rfl) (a_cons (q_strc [115, 104, 111, 119, 110]) a_nil) (by rfl))) x_nil))))))))
theorem ok_is_right_clock {f : Addr} {fd : FuncData} (F : Fun K "is_right_clock" "is_right_clock" s_is_right_clock f fd) {C_BadClock : Addr} (T_BadClock : ExcT P w K mg base "BadClock" C_BadClock "word") (C_check_clock : CalX P w K mg base C_BadClock "BadClock" "word" "check_clock" 2 3 f_check_clock) : FnOk P w K mg base CX0 4 f fd ["club", "clock"] (SpQ K 2 f_is_right_clock) :=
  okQ F sc_is_right_clock b_is_right_clock fun cdv A outer s H E hr => by
    have nd := sc_is_right_clock.nd
    exact (x_cons (x_tryO rfl rfl T_BadClock (by rfl) (fun Wx pn xe tk po => (x_one (x_expr (q_callX C_check_clock hr (by decide) (by rfl) tk (a_cons (q_var 0) (a_cons (q_var 1) a_nil)))))) (fun _ _ => (x_one (x_ret q_bl)))) (x_one (x_ret q_bl)))
theorem ok_is_ring {f : Addr} {fd : FuncData} (F : Fun K "is_ring" "is_ring" s_is_ring f fd) (m_type : mg "type" = none) (m_int : mg "int" = none) : FnOk P w K mg base CX0 1 f fd ["club", "told"] (SpQ K 2 f_is_ring) :=
  okQ F sc_is_ring b_is_ring fun cdv A outer s H E hr => by
    have nd := sc_is_ring.nd
    exact (x_one (x_ret (q_and (q_tis (T := "int") (by rfl) m_type (by rfl) m_int (by decide +kernel) (q_var 1) (nomark _)) (q_bo1 (q_cmp (o_inS hr) (q_var 1) (q_lc (own := [("bird", 2)]) rfl nd (i_seq (q_ix (q_var 0) q_int (fun _ _ => rfl))) (blkOk_by (own := [("bird", 2)]) (N := ["club", "told", "bird"]) (sc := defScope s_is_ring) (by decide +kernel)) (fun _ _ _ _ _ => n_name 2 nd (by decide)) (fun _ _ _ _ _ => ts_nil) (fun _ _ _ _ _ => (q_ix (q_var 2) q_int (fun _ _ => rfl)))) (by rfl))))))
theorem ok_is_right {f : Addr} {fd : FuncData} (F : Fun K "is_right" "is_right" s_is_right f fd) (C_is_right_clock : Cal P w K mg base "is_right_clock" 2 4 f_is_right_clock) (C_is_ring : Cal P w K mg base "is_ring" 2 1 f_is_ring) (C_is_race : Cal P w K mg base "is_race" 2 2 f_is_race) (C_is_owner : Cal P w K mg base "is_owner" 1 4 f_is_owner) (C_is_from : Cal P w K mg base "is_from" 3 1 f_is_from) (m_len : mg "len" = none) {t_MOST_UNITS : Tok} (m_MOST_UNITS : mg "MOST_UNITS" = some (.int 1000 t_MOST_UNITS)) {t_LAST_READING : Tok} (m_LAST_READING : mg "LAST_READING" = some (.int 9999 t_LAST_READING)) {a_KINDS : Addr} (m_KINDS : mg "KINDS" = some (.ref a_KINDS)) (kv_KINDS : KV K (.tup [(.str [99, 108, 111, 99, 107]), (.str [115, 108, 105, 112]), (.str [115, 116, 97, 107, 101]), (.str [116, 114, 97, 110, 115, 102, 101, 114])]) (.ref a_KINDS)) {d_SIZES : Addr} (m_SIZES : mg "SIZES" = some (.ref d_SIZES)) (kt_SIZES : KTab K w d_SIZES T_SIZES) : FnOk P w K mg base CX0 5 f fd ["club", "entry"] (SpQ K 2 f_is_right) :=
  okQ F sc_is_right b_is_right fun cdv A outer s H E hr => by
    have nd := sc_is_right.nd
    exact (x_cons (x_set 2 nd (q_ix (q_var 1) q_int (fun _ _ => rfl))) (x_cons (x_if (t_w (w_or (t_cmp o_ninTx (q_var 2) (q_globV (v := .ref a_KINDS) (by rfl) m_KINDS rfl kv_KINDS) (by rfl)) (w_or1 (t_cmp (o_ne hr) (q_callB c_len (by rfl) m_len PySem.boot_len (a_cons (q_var 1) a_nil)) (q_getK (by rfl) m_SIZES kt_SIZES (q_var 2) (fun _ _ => rfl)) (nomark _))))) (x_one (x_ret q_bl)) x_nil) (x_cons (x_if (t_cmp (o_eq hr) (q_var 2) (q_strc [99, 108, 111, 99, 107]) (nomark _)) (x_one (x_ret (q_call C_is_right_clock hr (by decide) (by rfl) (a_cons (q_var 0) (a_cons (q_slice (q_var 1) (p_some q_int) p_none) a_nil))))) x_nil) (x_cons (x_if (t_cmp (o_eq hr) (q_var 2) (q_strc [116, 114, 97, 110, 115, 102, 101, 114]) (nomark _)) (x_cons (x_asg (q_var 1) (g_tup (n := 4) rfl (gs_cons (g_name 3 nd) (gs_cons (g_name 4 nd) (gs_cons (g_name 5 nd) (gs_cons (g_name 6 nd) gs_nil)))))) (x_one (x_ret (q_and (q_call C_is_ring hr (by decide) (by rfl) (a_cons (q_var 0) (a_cons (q_var 4) a_nil))) (q_and (q_call C_is_race hr (by decide) (by rfl) (a_cons (q_var 0) (a_cons (q_var 5) a_nil))) (q_bo1 (q_call C_is_owner hr (by decide) (by rfl) (a_cons (q_var 6) a_nil)))))))) x_nil) (x_cons (x_asg (q_var 1) (g_tup (n := 4) rfl (gs_cons (g_name 3 nd) (gs_cons (g_name 5 nd) (gs_cons (g_name 4 nd) (gs_cons (g_name 7 nd) gs_nil)))))) (x_cons (x_if (t_w (w_or (t_not (t_val (q_call C_is_race hr (by decide) (by rfl) (a_cons (q_var 0) (a_cons (q_var 5) a_nil))))) (w_or1 (t_not (t_val (q_call C_is_ring hr (by decide) (by rfl) (a_cons (q_var 0) (a_cons (q_var 4) a_nil)))))))) (x_one (x_ret q_bl)) x_nil) (x_cons (x_if (t_cmp (o_eq hr) (q_var 2) (q_strc [115, 116, 97, 107, 101]) (nomark _)) (x_one (x_ret (q_call C_is_from hr (by decide) (by rfl) (a_cons (q_var 7) (a_cons q_int (a_cons (q_globI (by rfl) m_MOST_UNITS) a_nil)))))) x_nil) (x_one (x_ret (q_or (q_cmp o_is (q_var 7) q_non (nomark _)) (q_bo1 (q_call C_is_from hr (by decide) (by rfl) (a_cons (q_var 7) (a_cons q_int (a_cons (q_globI (by rfl) m_LAST_READING) a_nil)))))))))))))))
theorem ok_Book_tell {f : Addr} {fd : FuncData} (F : Fun K "tell" "Book.tell" s_Book_tell f fd) {C_Book : Addr} (BK : BkC K C_Book) {C_BadEvent : Addr} (T_BadEvent : ExcT P w K mg base "BadEvent" C_BadEvent "word") {C_TooMany : Addr} (T_TooMany : ExcT P w K mg base "TooMany" C_TooMany "limit") (C_is_right : Cal P w K mg base "is_right" 2 5 f_is_right) (m_len : mg "len" = none) (m_max : mg "max" = none) {t_MOST_TELLINGS : Tok} (m_MOST_TELLINGS : mg "MOST_TELLINGS" = some (.int 80 t_MOST_TELLINGS)) : FnOk P w K mg base (L2.CX P w) 6 f fd ["self", "entry"] (SpM K [("BadEvent", C_BadEvent, some "word"), ("TooMany", C_TooMany, some "limit")] 2 f_Book_tell) :=
  okMQ F sc_Book_tell b_Book_tell fun cdv A outer s H E hr => by
    have nd := sc_Book_tell.nd
    exact (x_cons (x_if (t_not (t_val (q_call C_is_right hr (by decide) (by rfl) (a_cons (q_fld BK (i := 1) rfl (q_var 0)) (a_cons (q_var 1) a_nil))))) (x_one (x_raiseM rfl T_BadEvent (hr.mono (by decide)) (takes_of rfl rfl rfl rfl) (by simp [List.lookup]) (a_cons (q_ix (q_var 1) q_int (fun _ _ => rfl)) a_nil) (by rfl))) x_nil) (x_cons (x_if (t_cmp o_ge (q_callB c_len (by rfl) m_len PySem.boot_len (a_cons (q_fld BK (i := 2) rfl (q_var 0)) a_nil)) (q_globI (by rfl) m_MOST_TELLINGS) (nomark _)) (x_one (x_raiseM rfl T_TooMany (hr.mono (by decide)) (takes_of rfl rfl rfl rfl) (by simp [List.lookup]) (a_cons (q_globI (by rfl) m_MOST_TELLINGS) a_nil) (by rfl))) x_nil) (x_cons (x_set 2 nd (q_bin o_add q_int (q_maxD rfl hr (by rfl) m_max (a_cons (q_lc (own := [("telling", 3)]) rfl nd (i_seq (q_fld BK (i := 2) rfl (q_var 0))) (blkOk_by (own := [("telling", 3)]) (N := ["self", "entry", "stamp", "telling"]) (sc := defScope s_Book_tell) (by decide +kernel)) (fun _ _ _ _ _ => n_name 3 nd (by decide)) (fun _ _ _ _ _ => ts_nil) (fun _ _ _ _ _ => (q_ix (q_var 3) q_int (fun _ _ => rfl)))) a_nil) q_int))) (x_cons (x_set 3 nd (q_tup (a_cons (q_var 2) (a_cons (q_fld BK (i := 0) rfl (q_var 0)) (a_cons (q_var 1) a_nil))))) (x_cons (x_expr (q_m ty_list PySem.F.plainAttrs_list PySem.F.slot_list_append PySem.F.type_list_append m_append (q_fld BK (i := 2) rfl (q_var 0)) (a_cons (q_var 3) a_nil))) (x_one (x_ret (q_var 3))))))))
theorem ok_Book_club {f : Addr} {fd : FuncData} (F : Fun K "club" "Book.club" s_Book_club f fd) {C_Book : Addr} (BK : BkC K C_Book) : FnOk P w K mg base CX0 1 f fd ["self"] (SpQ K 1 f_Book_club) :=
  okQ F sc_Book_club b_Book_club fun cdv A outer s H E hr => by
    have nd := sc_Book_club.nd
    exact (x_one (x_ret (q_fld BK (i := 1) rfl (q_var 0))))
theorem ok_Book_tellings {f c : Addr} {oc : Value} {od an : Option Addr} {osl : Array (Option Value)} {kV doc pm ct : Value} (lk : K.lookup f = some ⟨oc, od, .func (PySem.W.fnOf "tellings" "Book.tellings" (defArgs s_Book_tellings) (defBody s_Book_tellings) (defScope s_Book_tellings) .none kV doc pm an (.ref c) ct), osl⟩) (hcd : PySem.W.codeIn K (.ref c) "Book.tellings" = true) (TB : LamX.TabB base mg c 182) {C_Book : Addr} (BK : BkC K C_Book) (m_sorted : mg "sorted" = none) : FnOk P w K mg base CX0 4 f (PySem.W.fnOf "tellings" "Book.tellings" (defArgs s_Book_tellings) (defBody s_Book_tellings) (defScope s_Book_tellings) .none kV doc pm an (.ref c) ct) ["self"] (SpQ K 1 f_Book_tellings) :=
  okQC lk hcd sc_Book_tellings b_Book_tellings fun A outer s H E hr => by
    have nd := sc_Book_tellings.nd
    exact (x_one (x_ret (q_sortL (ps := ["telling"]) (N := ["telling"]) (k := 0) TB rfl (by first | rfl | (show (_ : PySem.Str) = _; decide +kernel)) rfl rfl (by exact ⟨rfl, rfl, rfl, by decide +kernel, rfl, by decide +kernel, by decide +kernel⟩) (hr.mono (by decide)) rfl (by rfl) m_sorted (a_cons (q_fld BK (i := 2) rfl (q_var 0)) a_nil) (by intro _ _ _ _; rfl) (fun A outer s H f c' rr => (q_tup (a_cons (q_ix (q_var 0) q_int (fun _ _ => rfl)) (a_cons (q_ix (q_var 0) q_int (fun _ _ => rfl)) a_nil)))))))
theorem ok_Book_merge {f : Addr} {fd : FuncData} (F : Fun K "merge" "Book.merge" s_Book_merge f fd) {C_Book : Addr} (BK : BkC K C_Book) {C_TooMany : Addr} (T_TooMany : ExcT P w K mg base "TooMany" C_TooMany "limit") {C_OtherClub : Addr} (T_OtherClub : Exc0T K mg "OtherClub" C_OtherClub) (C_Book_club : CalM P w K mg base C_Book "club" 1 1 f_Book_club) (C_Book_tellings : CalM P w K mg base C_Book "tellings" 1 4 f_Book_tellings) (m_len : mg "len" = none) {t_MOST_TELLINGS : Tok} (m_MOST_TELLINGS : mg "MOST_TELLINGS" = some (.int 80 t_MOST_TELLINGS)) : FnOk P w K mg base (L2.CX P w) 5 f fd ["self", "other"] (SpM K [("OtherClub", C_OtherClub, none), ("TooMany", C_TooMany, some "limit")] 2 f_Book_merge) :=
  okMQ F sc_Book_merge b_Book_merge fun cdv A outer s H E hr => by
    have nd := sc_Book_merge.nd
    exact (x_cons (x_if (t_cmp (o_ne hr) (q_fld BK (i := 1) rfl (q_var 0)) (q_meth0 BK C_Book_club hr (by decide) (by decide) (q_var 1)) (nomark _)) (x_one (x_raise0 rfl T_OtherClub (takes_of rfl rfl rfl rfl) (by simp [List.lookup]) (by rfl))) x_nil) (x_cons (x_setDcT 2 (own := [("stamp", 3), ("source", 4), ("entry", 5)]) rfl nd hr (by rfl) (by rfl) (by rfl) (i_seq (q_fld BK (i := 2) rfl (q_var 0))) (blkOk_by (own := [("stamp", 3), ("source", 4), ("entry", 5)]) (N := ["self", "other", "entries", "stamp", "source", "entry", "fresh"]) (sc := defScope s_Book_merge) (by decide +kernel)) (fun _ _ _ _ _ => n_tup (n := 3) rfl (ns_cons (n_name 3 nd (by decide)) (ns_cons (n_name 4 nd (by decide)) (ns_cons (n_name 5 nd (by decide)) ns_nil)))) (fun _ _ _ _ _ => ts_nil) (fun _ _ _ _ _ => (a_cons (q_var 3) (a_cons (q_var 4) a_nil))) (fun _ _ _ _ _ => pe_var (i := 5) rfl (by first | exact Or.inl rfl | exact Or.inr (Or.inl rfl) | exact Or.inr (Or.inr rfl)))) (x_cons (x_set 6 nd (q_lst a_nil)) (x_cons (x_for (L2.passes_of rfl) rfl (i_seq (q_meth0 BK C_Book_tellings hr (by decide) (by decide) (q_var 1))) (g_tup (n := 3) rfl (gs_cons (g_name 3 nd) (gs_cons (g_name 4 nd) (gs_cons (g_name 5 nd) gs_nil)))) (x_one (x_if (t_ninT hr (a_cons (q_var 3) (a_cons (q_var 4) a_nil)) (pe_var (i := 2) rfl (by first | exact Or.inl rfl | exact Or.inr (Or.inl rfl) | exact Or.inr (Or.inr rfl)))) (x_one (x_expr (q_m ty_list PySem.F.plainAttrs_list PySem.F.slot_list_append PySem.F.type_list_append m_append (q_var 6) (a_cons (q_tup (a_cons (q_var 3) (a_cons (q_var 4) (a_cons (q_var 5) a_nil)))) a_nil)))) (x_one (x_if (t_cmp (o_ne hr) (q_dget hr (q_var 2) (q_tup (a_cons (q_var 3) (a_cons (q_var 4) a_nil))) (fun _ _ => rfl)) (q_var 5) (nomark _)) (x_one (x_raise0 rfl T_OtherClub (takes_of rfl rfl rfl rfl) (by simp [List.lookup]) (by rfl))) x_nil))))) (x_cons (x_if (t_cmp o_gt (q_bin o_add (q_callB c_len (by rfl) m_len PySem.boot_len (a_cons (q_fld BK (i := 2) rfl (q_var 0)) a_nil)) (q_callB c_len (by rfl) m_len PySem.boot_len (a_cons (q_var 6) a_nil))) (q_globI (by rfl) m_MOST_TELLINGS) (nomark _)) (x_one (x_raiseM rfl T_TooMany (hr.mono (by decide)) (takes_of rfl rfl rfl rfl) (by simp [List.lookup]) (a_cons (q_globI (by rfl) m_MOST_TELLINGS) a_nil) (by rfl))) x_nil) (x_cons (x_expr (q_m ty_list PySem.F.plainAttrs_list PySem.F.slot_list_extend PySem.F.type_list_extend m_extend (q_fld BK (i := 2) rfl (q_var 0)) (a_cons (q_var 6) a_nil))) (x_one (x_ret (q_callB c_len (by rfl) m_len PySem.boot_len (a_cons (q_var 6) a_nil))))))))))
theorem ok_law_cell {f : Addr} {fd : FuncData} (F : Fun K "_law_cell" "_law_cell" s_law_cell f fd) (m_len : mg "len" = none) : FnOk P w K mg base CX0 1 f fd ["script", "k"] (SpQ K 2 f_law_cell) :=
  okQ F sc_law_cell b_law_cell fun cdv A outer s H E hr => by
    have nd := sc_law_cell.nd
    exact (x_cons (x_if (t_cmp o_lt (q_var 1) (q_callB c_len (by rfl) m_len PySem.boot_len (a_cons (q_var 0) a_nil)) (nomark _)) (x_one (x_ret (q_ix (q_var 0) (q_var 1) (fun _ _ => rfl)))) x_nil) (x_one (x_ret q_int)))
theorem ok_law_digits {f : Addr} {fd : FuncData} (F : Fun K "_law_digits" "_law_digits" s_law_digits f fd) (m_range : mg "range" = none) (m_len : mg "len" = none) (m_int : mg "int" = none) : FnOk P w K mg base CX0 1 f fd ["cell", "k", "most"] (SpQ K 3 f_law_digits) :=
  okQ F sc_law_digits b_law_digits fun cdv A outer s H E hr => by
    have nd := sc_law_digits.nd
    exact (x_cons (x_set 3 nd (q_lst a_nil)) (x_cons (x_if (t_cmp o_lt (q_var 0) q_int (nomark _)) (x_one (x_set 0 nd (q_bin o_sub (q_un o_neg q_int) (q_var 0)))) x_nil) (x_cons (x_if (t_cmp o_ge (q_var 0) (q_bin o_pow q_int q_int) (nomark _)) (x_one (x_for PassesOwn.never rfl (i_rng1 (by rfl) m_range q_int) (g_name 4 nd) (x_one (x_if (t_w (w_and (t_cmp o_gt (q_var 0) q_int (nomark _)) (w_and1 (t_cmp o_lt (q_callB c_len (by rfl) m_len PySem.boot_len (a_cons (q_var 3) a_nil)) (q_var 2) (nomark _))))) (x_cons (x_expr (q_m ty_list PySem.F.plainAttrs_list PySem.F.slot_list_append PySem.F.type_list_append m_append (q_var 3) (a_cons (q_bin o_mod (q_callTy c_int (by rfl) m_int (by decide +kernel) (a_cons (q_var 0) a_nil)) q_int) a_nil))) (x_one (x_set 0 nd (q_bin o_fdiv (q_var 0) q_int)))) x_nil)))) (x_cons (x_set 5 nd (q_bin o_mod (q_callTy c_int (by rfl) m_int (by decide +kernel) (a_cons (q_bin o_add (q_bin o_add (q_bin o_mulS (q_var 0) q_int) (q_bin o_mulS (q_var 1) q_int)) q_int) a_nil)) q_int)) (x_one (x_for PassesOwn.never rfl (i_rng1 (by rfl) m_range (q_var 2)) (g_name 4 nd) (x_cons (x_set 5 nd (q_bin o_mod (q_callTy c_int (by rfl) m_int (by decide +kernel) (a_cons (q_bin o_add (q_bin o_add (q_bin o_mulS (q_var 5) q_int) (q_bin o_mulS q_int (q_var 4))) q_int) a_nil)) q_int)) (x_one (x_expr (q_m ty_list PySem.F.plainAttrs_list PySem.F.slot_list_append PySem.F.type_list_append m_append (q_var 3) (a_cons (q_bin o_mod (q_callTy c_int (by rfl) m_int (by decide +kernel) (a_cons (q_bin o_fdiv (q_var 5) q_int) a_nil)) q_int) a_nil))))))))) (x_one (x_ret (q_var 3))))))
theorem ok_law_padded {f : Addr} {fd : FuncData} (F : Fun K "_law_padded" "_law_padded" s_law_padded f fd) (C_law_digits : Cal P w K mg base "_law_digits" 3 1 f_law_digits) (m_range : mg "range" = none) : FnOk P w K mg base CX0 2 f fd ["cell", "k"] (SpQ K 2 f_law_padded) :=
  okQ F sc_law_padded b_law_padded fun cdv A outer s H E hr => by
    have nd := sc_law_padded.nd
    exact (x_cons (x_set 2 nd (q_call C_law_digits hr (by decide) (by rfl) (a_cons (q_var 0) (a_cons (q_var 1) (a_cons q_int a_nil))))) (x_cons (x_for PassesOwn.never rfl (i_rng1 (by rfl) m_range q_int) (g_name 3 nd) (x_one (x_expr (q_m ty_list PySem.F.plainAttrs_list PySem.F.slot_list_append PySem.F.type_list_append m_append (q_var 2) (a_cons (q_var 3) a_nil))))) (x_one (x_ret (q_var 2)))))
theorem ok_law_entry {f : Addr} {fd : FuncData} (F : Fun K "_law_entry" "_law_entry" s_law_entry f fd) (C_law_padded : Cal P w K mg base "_law_padded" 2 2 f_law_padded) (m_int : mg "int" = none) (m_len : mg "len" = none) : FnOk P w K mg base CX0 3 f fd ["cell", "k", "club"] (SpQ K 3 f_law_entry) :=
  okQ F sc_law_entry b_law_entry fun cdv A outer s H E hr => by
    have nd := sc_law_entry.nd
    exact (x_cons (x_set 3 nd (q_call C_law_padded hr (by decide) (by rfl) (a_cons (q_var 0) (a_cons (q_var 1) a_nil)))) (x_cons (x_set 4 nd (q_bin o_mod (q_callTy c_int (by rfl) m_int (by decide +kernel) (a_cons (q_ix (q_var 3) q_int (fun _ _ => rfl)) a_nil)) (q_callB c_len (by rfl) m_len PySem.boot_len (a_cons (q_ix (q_var 2) q_int (fun _ _ => rfl)) a_nil)))) (x_cons (x_set 5 nd (q_ix (q_ix (q_ix (q_var 2) q_int (fun _ _ => rfl)) (q_bin o_mod (q_callTy c_int (by rfl) m_int (by decide +kernel) (a_cons (q_ix (q_var 3) q_int (fun _ _ => rfl)) a_nil)) (q_callB c_len (by rfl) m_len PySem.boot_len (a_cons (q_ix (q_var 2) q_int (fun _ _ => rfl)) a_nil))) (fun _ _ => rfl)) q_int (fun _ _ => rfl))) (x_cons (x_set 6 nd (q_ix (q_ix (q_ix (q_var 2) q_int (fun _ _ => rfl)) (q_var 4) (fun _ _ => rfl)) q_int (fun _ _ => rfl))) (x_cons (x_set 7 nd (q_bin o_mod (q_callTy c_int (by rfl) m_int (by decide +kernel) (a_cons (q_ix (q_var 3) q_int (fun _ _ => rfl)) a_nil)) q_int)) (x_cons (x_if (t_cmp (o_eq hr) (q_var 7) q_int (nomark _)) (x_cons (x_set 8 nd (q_bin o_add (q_bin o_add (q_var 6) q_int) (q_bin o_mod (q_callTy c_int (by rfl) m_int (by decide +kernel) (a_cons (q_ix (q_var 3) q_int (fun _ _ => rfl)) a_nil)) q_int))) (x_one (x_ret (q_tup (a_cons (q_strc [99, 108, 111, 99, 107]) (a_cons (q_var 4) (a_cons (q_bin o_mod (q_callTy c_int (by rfl) m_int (by decide +kernel) (a_cons (q_ix (q_var 3) q_int (fun _ _ => rfl)) a_nil)) (q_callB c_len (by rfl) m_len PySem.boot_len (a_cons (q_ix (q_var 2) q_int (fun _ _ => rfl)) a_nil))) (a_cons (q_bin o_sub (q_var 6) (q_bin o_mod (q_callTy c_int (by rfl) m_int (by decide +kernel) (a_cons (q_ix (q_var 3) q_int (fun _ _ => rfl)) a_nil)) q_int)) (a_cons (q_var 8) (a_cons (q_bin o_add (q_bin o_sub (q_var 8) q_int) (q_bin o_mod (q_callTy c_int (by rfl) m_int (by decide +kernel) (a_cons (q_ix (q_var 3) q_int (fun _ _ => rfl)) a_nil)) q_int)) a_nil)))))))))) x_nil) (x_cons (x_if (t_cmp (o_eq hr) (q_var 7) q_int (nomark _)) (x_one (x_ret (q_tup (a_cons (q_strc [115, 116, 97, 107, 101]) (a_cons (q_var 4) (a_cons (q_var 5) (a_cons (q_bin o_mod (q_callTy c_int (by rfl) m_int (by decide +kernel) (a_cons (q_ix (q_var 3) q_int (fun _ _ => rfl)) a_nil)) q_int) a_nil))))))) x_nil) (x_cons (x_if (t_cmp (o_eq hr) (q_var 7) q_int (nomark _)) (x_one (x_ret (q_tup (a_cons (q_strc [116, 114, 97, 110, 115, 102, 101, 114]) (a_cons (q_var 5) (a_cons (q_var 4) (a_cons (q_ix (q_lst (a_cons (q_strc [97, 110, 110]) (a_cons (q_strc [98, 111]) (a_cons (q_strc [99, 121]) a_nil)))) (q_bin o_mod (q_callTy c_int (by rfl) m_int (by decide +kernel) (a_cons (q_ix (q_var 3) q_int (fun _ _ => rfl)) a_nil)) q_int) (fun _ _ => rfl)) a_nil))))))) x_nil) (x_one (x_ret (q_tup (a_cons (q_strc [115, 108, 105, 112]) (a_cons (q_var 4) (a_cons (q_var 5) (a_cons (q_ix (q_lst (a_cons (q_bin o_add (q_var 6) (q_bin o_mod (q_callTy c_int (by rfl) m_int (by decide +kernel) (a_cons (q_ix (q_var 3) q_int (fun _ _ => rfl)) a_nil)) q_int)) (a_cons q_non (a_cons (q_bin o_add (q_var 6) (q_bin o_mod (q_callTy c_int (by rfl) m_int (by decide +kernel) (a_cons (q_ix (q_var 3) q_int (fun _ _ => rfl)) a_nil)) q_int)) a_nil)))) (q_bin o_mod (q_callTy c_int (by rfl) m_int (by decide +kernel) (a_cons (q_ix (q_var 3) q_int (fun _ _ => rfl)) a_nil)) q_int) (fun _ _ => rfl)) a_nil)))))))))))))))
theorem ok_law_books {f : Addr} {fd : FuncData} (F : Fun K "_law_books" "_law_books" s_law_books f fd) {C_Book : Addr} (BK : BkC K C_Book) {C_TooMany : Addr} (T_TooMany : ExcT P w K mg base "TooMany" C_TooMany "limit") {C_BadEvent : Addr} (T_BadEvent : ExcT P w K mg base "BadEvent" C_BadEvent "word") {C_OtherClub : Addr} (T_OtherClub : Exc0T K mg "OtherClub" C_OtherClub) (C_Book_init : CalBX P w K mg base C_Book "Book" C_TooMany "TooMany" "limit" 3 3 f_Book_init) (C_law_cell : Cal P w K mg base "_law_cell" 2 1 f_law_cell) (C_Book_merge : CalMX P w K mg base C_Book "merge" [("OtherClub", C_OtherClub, none), ("TooMany", C_TooMany, some "limit")] 2 5 f_Book_merge) (C_Book_tell : CalMX P w K mg base C_Book "tell" [("BadEvent", C_BadEvent, some "word"), ("TooMany", C_TooMany, some "limit")] 2 6 f_Book_tell) (C_law_entry : Cal P w K mg base "_law_entry" 3 3 f_law_entry) (m_range : mg "range" = none) (m_int : mg "int" = none) (m_len : mg "len" = none) : FnOk P w K mg base CX0 7 f fd ["script", "club", "first"] (SpQ K 3 f_law_books) :=
  okQ F sc_law_books b_law_books fun cdv A outer s H E hr => by
    have nd := sc_law_books.nd
    exact (x_cons (x_setLc 3 (own := [("k", 4)]) rfl nd (by rfl) (by rfl) (by rfl) (i_rng1 (by rfl) m_range q_int) (blkOk_by (own := [("k", 4)]) (N := ["script", "club", "first", "books", "k", "cell", "who"]) (sc := defScope s_law_books) (by decide +kernel)) (fun _ _ _ _ _ => n_name 4 nd (by decide)) (fun _ _ _ _ _ => ts_nil) (fun _ _ _ _ _ => (q_makeX0 BK C_Book_init hr (by decide) (by rfl) (a_cons (q_bin o_add q_int (q_var 4)) (a_cons (q_var 1) a_nil))))) (x_cons (x_for PassesOwn.never rfl (i_rng2 (by rfl) m_range (q_var 2) (q_bin o_add (q_var 2) q_int)) (g_name 4 nd) (x_cons (x_set 5 nd (q_call C_law_cell hr (by decide) (by rfl) (a_cons (q_var 0) (a_cons (q_var 4) a_nil)))) (x_cons (x_set 6 nd (q_bin o_mod (q_callTy c_int (by rfl) m_int (by decide +kernel) (a_cons (q_bin o_fdiv (q_var 5) q_int) a_nil)) q_int)) (x_one (x_if (t_cmp (o_eq hr) (q_bin o_mod (q_callTy c_int (by rfl) m_int (by decide +kernel) (a_cons (q_var 5) a_nil)) q_int) q_int (nomark _)) (x_one (x_expr (q_methX0 BK C_Book_merge hr (by decide) (by decide) (q_ix (q_var 3) (q_var 6) (fun _ _ => rfl)) (a_cons (q_ix (q_var 3) (q_bin o_mod (q_callTy c_int (by rfl) m_int (by decide +kernel) (a_cons (q_bin o_add (q_bin o_add (q_var 6) q_int) (q_bin o_mod (q_bin o_fdiv (q_var 5) q_int) q_int)) a_nil)) q_int) (fun _ _ => rfl)) a_nil)))) (x_one (x_if (t_cmp o_lt (q_var 4) (q_callB c_len (by rfl) m_len PySem.boot_len (a_cons (q_var 0) a_nil)) (nomark _)) (x_one (x_expr (q_methX0 BK C_Book_tell hr (by decide) (by decide) (q_ix (q_var 3) (q_var 6) (fun _ _ => rfl)) (a_cons (q_call C_law_entry hr (by decide) (by rfl) (a_cons (q_var 5) (a_cons (q_var 4) (a_cons (q_var 1) a_nil)))) a_nil)))) x_nil))))))) (x_one (x_ret (q_var 3)))))
theorem ok_law_club {f : Addr} {fd : FuncData} (F : Fun K "_law_club" "_law_club" s_law_club f fd) (C_law_cell : Cal P w K mg base "_law_cell" 2 1 f_law_cell) (C_law_padded : Cal P w K mg base "_law_padded" 2 2 f_law_padded) (m_range : mg "range" = none) (m_int : mg "int" = none) (m_len : mg "len" = none) (m_tuple : mg "tuple" = none) : FnOk P w K mg base CX0 3 f fd ["script"] (SpQ K 1 f_law_club) :=
  okQ F sc_law_club b_law_club fun cdv A outer s H E hr => by
    have nd := sc_law_club.nd
    exact (x_cons (x_set 1 nd (q_call C_law_padded hr (by decide) (by rfl) (a_cons (q_call C_law_cell hr (by decide) (by rfl) (a_cons (q_var 0) (a_cons q_int a_nil))) (a_cons q_int a_nil)))) (x_cons (x_set 2 nd (q_lst a_nil)) (x_cons (x_for PassesOwn.never rfl (i_rng1 (by rfl) m_range (q_bin o_add q_int (q_bin o_mod (q_callTy c_int (by rfl) m_int (by decide +kernel) (a_cons (q_ix (q_var 1) q_int (fun _ _ => rfl)) a_nil)) q_int))) (g_name 3 nd) (x_one (x_expr (q_m ty_list PySem.F.plainAttrs_list PySem.F.slot_list_append PySem.F.type_list_append m_append (q_var 2) (a_cons (q_tup (a_cons (q_ix (q_strc [97, 98, 99]) (q_var 3) (fun _ _ => rfl)) (a_cons (q_bin o_mod (q_callTy c_int (by rfl) m_int (by decide +kernel) (a_cons (q_ix (q_var 1) (q_bin o_add q_int (q_var 3)) (fun _ _ => rfl)) a_nil)) q_int) (a_cons (q_bin o_mod (q_callTy c_int (by rfl) m_int (by decide +kernel) (a_cons (q_ix (q_var 1) (q_bin o_add q_int (q_var 3)) (fun _ _ => rfl)) a_nil)) q_int) a_nil)))) a_nil))))) (x_cons (x_set 4 nd (q_lst a_nil)) (x_cons (x_for PassesOwn.never rfl (i_rng1 (by rfl) m_range (q_bin o_add q_int (q_bin o_mod (q_callTy c_int (by rfl) m_int (by decide +kernel) (a_cons (q_ix (q_var 1) q_int (fun _ _ => rfl)) a_nil)) q_int))) (g_name 3 nd) (x_one (x_expr (q_m ty_list PySem.F.plainAttrs_list PySem.F.slot_list_append PySem.F.type_list_append m_append (q_var 4) (a_cons (q_tup (a_cons (q_bin o_add (q_bin o_add (q_bin o_mulS q_int (q_var 3)) q_int) (q_bin o_mod (q_callTy c_int (by rfl) m_int (by decide +kernel) (a_cons (q_ix (q_var 1) (q_bin o_add q_int (q_var 3)) (fun _ _ => rfl)) a_nil)) q_int)) (a_cons (q_bin o_mod (q_callTy c_int (by rfl) m_int (by decide +kernel) (a_cons (q_bin o_fdiv (q_ix (q_var 1) (q_bin o_add q_int (q_var 3)) (fun _ _ => rfl)) q_int) a_nil)) (q_callB c_len (by rfl) m_len PySem.boot_len (a_cons (q_var 2) a_nil))) (a_cons (q_bin o_add q_int (q_var 3)) a_nil)))) a_nil))))) (x_cons (x_set 5 nd (q_lst a_nil)) (x_cons (x_for PassesOwn.never rfl (i_rng1 (by rfl) m_range (q_bin o_add q_int (q_bin o_mod (q_callTy c_int (by rfl) m_int (by decide +kernel) (a_cons (q_ix (q_var 1) q_int (fun _ _ => rfl)) a_nil)) q_int))) (g_name 3 nd) (x_cons (x_set 6 nd (q_bin o_add q_int (q_bin o_mod (q_callTy c_int (by rfl) m_int (by decide +kernel) (a_cons (q_ix (q_var 1) (q_bin o_add q_int (q_var 3)) (fun _ _ => rfl)) a_nil)) q_int))) (x_cons (x_set 7 nd (q_bin o_add (q_bin o_add (q_var 6) q_int) (q_bin o_mod (q_callTy c_int (by rfl) m_int (by decide +kernel) (a_cons (q_ix (q_var 1) (q_bin o_add q_int (q_var 3)) (fun _ _ => rfl)) a_nil)) (q_ix (q_lst (a_cons q_int (a_cons q_int (a_cons q_int a_nil)))) (q_bin o_mod (q_callTy c_int (by rfl) m_int (by decide +kernel) (a_cons (q_ix (q_var 1) q_int (fun _ _ => rfl)) a_nil)) q_int) (fun _ _ => rfl))))) (x_cons (x_set 8 nd (q_ix (q_lst (a_cons (q_bin o_sub (q_var 6) q_int) (a_cons (q_bin o_add (q_var 6) q_int) (a_cons q_int (a_cons q_int a_nil))))) (q_bin o_mod (q_callTy c_int (by rfl) m_int (by decide +kernel) (a_cons (q_ix (q_var 1) q_int (fun _ _ => rfl)) a_nil)) q_int) (fun _ _ => rfl))) (x_one (x_expr (q_m ty_list PySem.F.plainAttrs_list PySem.F.slot_list_append PySem.F.type_list_append m_append (q_var 5) (a_cons (q_tup (a_cons (q_ix (q_strc [112, 113]) (q_var 3) (fun _ _ => rfl)) (a_cons (q_bin o_add q_int (q_bin o_mod (q_callTy c_int (by rfl) m_int (by decide +kernel) (a_cons (q_ix (q_var 1) (q_bin o_add q_int (q_var 3)) (fun _ _ => rfl)) a_nil)) q_int)) (a_cons (q_bin o_add q_int (q_var 3)) (a_cons (q_var 6) (a_cons (q_var 7) (a_cons (q_var 8) (a_cons (q_bin o_mod (q_bin o_add (q_var 8) (q_bin o_mod (q_callTy c_int (by rfl) m_int (by decide +kernel) (a_cons (q_ix (q_var 1) q_int (fun _ _ => rfl)) a_nil)) q_int)) q_int) a_nil)))))))) a_nil)))))))) (x_one (x_ret (q_tup (a_cons (q_callTy c_tuple (by rfl) m_tuple (by decide +kernel) (a_cons (q_var 2) a_nil)) (a_cons (q_callTy c_tuple (by rfl) m_tuple (by decide +kernel) (a_cons (q_var 4) a_nil)) (a_cons (q_callTy c_tuple (by rfl) m_tuple (by decide +kernel) (a_cons (q_var 5) a_nil)) a_nil)))))))))))))
theorem ok_law_made {f : Addr} {fd : FuncData} (F : Fun K "_law_made" "_law_made" s_law_made f fd) {C_Book : Addr} (BK : BkC K C_Book) {C_TooMany : Addr} (T_TooMany : ExcT P w K mg base "TooMany" C_TooMany "limit") (C_Book_init : CalBX P w K mg base C_Book "Book" C_TooMany "TooMany" "limit" 3 3 f_Book_init) : FnOk P w K mg base CX0 5 f fd ["source", "club"] (SpQ K 2 f_law_made) :=
  okQ F sc_law_made b_law_made fun cdv A outer s H E hr => by
    have nd := sc_law_made.nd
    exact (x_cons (x_tryA 2 rfl rfl nd rfl rfl T_TooMany (by rfl) (fun Wx pn xe tk po => (x_one (x_expr (q_makeX BK C_Book_init hr (by decide) (by rfl) tk (a_cons (q_var 0) (a_cons (q_var 1) a_nil)))))) (by first | exact Or.inl rfl | exact Or.inr (Or.inl rfl) | exact Or.inr (Or.inr rfl)) (by rfl)) (x_one (x_ret q_non)))
theorem ok_law_merged {f : Addr} {fd : FuncData} (F : Fun K "_law_merged" "_law_merged" s_law_merged f fd) {C_Book : Addr} (BK : BkC K C_Book) {C_TooMany : Addr} (T_TooMany : ExcT P w K mg base "TooMany" C_TooMany "limit") {C_OtherClub : Addr} (T_OtherClub : Exc0T K mg "OtherClub" C_OtherClub) (te_TooMany_OtherClub : PySem.W.exmOne K (.ref C_TooMany) (.ref C_OtherClub) = some false) (C_Book_merge : CalMX P w K mg base C_Book "merge" [("OtherClub", C_OtherClub, none), ("TooMany", C_TooMany, some "limit")] 2 5 f_Book_merge) : FnOk P w K mg base CX0 6 f fd ["book", "other"] (SpQ K 2 f_law_merged) :=
  okQ F sc_law_merged b_law_merged fun cdv A outer s H E hr => by
    have nd := sc_law_merged.nd
    exact (x_cons (x_tryCF 2 [111, 116, 104, 101, 114] rfl rfl nd rfl rfl T_OtherClub T_TooMany (by rfl) (by rfl) (by decide) te_TooMany_OtherClub (fun Wx pn xe tk po => (x_one (x_expr (q_methX BK C_Book_merge hr (by decide) (by decide) tk (q_var 0) (a_cons (q_var 1) a_nil))))) (by first | exact Or.inl rfl | exact Or.inr (Or.inl rfl) | exact Or.inr (Or.inr rfl)) (by rfl)) (x_one (x_ret q_non)))
theorem ok_law_told {f : Addr} {fd : FuncData} (F : Fun K "_law_told" "_law_told" s_law_told f fd) {C_Book : Addr} (BK : BkC K C_Book) {C_BadEvent : Addr} (T_BadEvent : ExcT P w K mg base "BadEvent" C_BadEvent "word") {C_TooMany : Addr} (T_TooMany : ExcT P w K mg base "TooMany" C_TooMany "limit") (te_TooMany_BadEvent : PySem.W.exmOne K (.ref C_TooMany) (.ref C_BadEvent) = some false) (C_Book_tell : CalMX P w K mg base C_Book "tell" [("BadEvent", C_BadEvent, some "word"), ("TooMany", C_TooMany, some "limit")] 2 6 f_Book_tell) : FnOk P w K mg base CX0 7 f fd ["book", "entry"] (SpQ K 2 f_law_told) :=
  okQ F sc_law_told b_law_told fun cdv A outer s H E hr => by
    have nd := sc_law_told.nd
    exact (x_cons (x_tryFF 2 rfl rfl nd rfl rfl T_BadEvent T_TooMany (by rfl) (by rfl) (by decide) te_TooMany_BadEvent (fun Wx pn xe tk po => (x_one (x_expr (q_methX BK C_Book_tell hr (by decide) (by decide) tk (q_var 0) (a_cons (q_var 1) a_nil))))) (by first | exact Or.inl rfl | exact Or.inr (Or.inl rfl) | exact Or.inr (Or.inr rfl)) (by rfl) (by rfl)) (x_one (x_ret q_non)))
theorem ok_law_wrong {f : Addr} {fd : FuncData} (F : Fun K "_law_wrong" "_law_wrong" s_law_wrong f fd) (m_len : mg "len" = none) (m_int : mg "int" = none) : FnOk P w K mg base CX0 1 f fd ["club", "k"] (SpQ K 2 f_law_wrong) :=
  okQ F sc_law_wrong b_law_wrong fun cdv A outer s H E hr => by
    have nd := sc_law_wrong.nd
    exact (x_cons (x_set 2 nd (q_ix (q_ix (q_ix (q_var 0) q_int (fun _ _ => rfl)) q_int (fun _ _ => rfl)) q_int (fun _ _ => rfl))) (x_cons (x_set 3 nd (q_callB c_len (by rfl) m_len PySem.boot_len (a_cons (q_ix (q_var 0) q_int (fun _ _ => rfl)) a_nil))) (x_cons (x_set 4 nd (q_ix (q_ix (q_ix (q_var 0) q_int (fun _ _ => rfl)) q_int (fun _ _ => rfl)) q_int (fun _ _ => rfl))) (x_cons (x_set 5 nd (q_lst (a_cons (q_tup (a_cons (q_strc [115, 108, 105, 112]) (a_cons (q_var 3) (a_cons (q_var 2) (a_cons q_int a_nil))))) (a_cons (q_tup (a_cons (q_strc [115, 108, 105, 112]) (a_cons q_int (a_cons q_int (a_cons q_non a_nil))))) (a_cons (q_tup (a_cons (q_strc [115, 108, 105, 112]) (a_cons q_int (a_cons (q_var 2) (a_cons q_int a_nil))))) (a_cons (q_tup (a_cons (q_strc [115, 108, 105, 112]) (a_cons q_int (a_cons (q_var 2) (a_cons (q_un o_neg q_int) a_nil))))) (a_cons (q_tup (a_cons (q_strc [115, 116, 97, 107, 101]) (a_cons q_int (a_cons (q_var 2) (a_cons q_int a_nil))))) (a_cons (q_tup (a_cons (q_strc [115, 116, 97, 107, 101]) (a_cons (q_var 3) (a_cons (q_var 2) (a_cons q_int a_nil))))) (a_cons (q_tup (a_cons (q_strc [115, 116, 97, 107, 101]) (a_cons q_int (a_cons q_int (a_cons q_int a_nil))))) (a_cons (q_tup (a_cons (q_strc [115, 116, 97, 107, 101]) (a_cons q_int (a_cons (q_var 2) (a_cons (q_un o_neg q_int) a_nil))))) (a_cons (q_tup (a_cons (q_strc [116, 114, 97, 110, 115, 102, 101, 114]) (a_cons q_int (a_cons q_int (a_cons (q_strc [97, 110, 110]) a_nil))))) (a_cons (q_tup (a_cons (q_strc [116, 114, 97, 110, 115, 102, 101, 114]) (a_cons (q_var 2) (a_cons (q_var 3) (a_cons (q_strc [97, 110, 110]) a_nil))))) (a_cons (q_tup (a_cons (q_strc [116, 114, 97, 110, 115, 102, 101, 114]) (a_cons (q_var 2) (a_cons q_int (a_cons (q_strc [65, 110, 110]) a_nil))))) (a_cons (q_tup (a_cons (q_strc [116, 114, 97, 110, 115, 102, 101, 114]) (a_cons (q_var 2) (a_cons q_int (a_cons (q_strc [97, 98, 99, 100, 101, 102, 103, 104, 105]) a_nil))))) (a_cons (q_tup (a_cons (q_strc [116, 114, 97, 110, 115, 102, 101, 114]) (a_cons (q_var 2) (a_cons q_int (a_cons (q_strc []) a_nil))))) (a_cons (q_tup (a_cons (q_strc [99, 108, 111, 99, 107]) (a_cons q_int (a_cons (q_callB c_len (by rfl) m_len PySem.boot_len (a_cons (q_ix (q_var 0) q_int (fun _ _ => rfl)) a_nil)) (a_cons (q_var 4) (a_cons (q_bin o_add (q_var 4) q_int) (a_cons (q_bin o_add (q_var 4) q_int) a_nil))))))) (a_cons (q_tup (a_cons (q_strc [99, 108, 111, 99, 107]) (a_cons q_int (a_cons q_int (a_cons (q_var 4) (a_cons (q_var 4) (a_cons (q_bin o_add (q_var 4) q_int) a_nil))))))) (a_cons (q_tup (a_cons (q_strc [99, 108, 111, 99, 107]) (a_cons q_int (a_cons q_int (a_cons (q_var 4) (a_cons (q_bin o_add (q_var 4) q_int) (a_cons (q_var 4) a_nil))))))) (a_cons (q_tup (a_cons (q_strc [115, 108, 105, 112]) (a_cons (q_un o_neg q_int) (a_cons (q_var 2) (a_cons q_int a_nil))))) (a_cons (q_tup (a_cons (q_strc [115, 116, 97, 107, 101]) (a_cons (q_un o_neg q_int) (a_cons (q_var 2) (a_cons q_int a_nil))))) (a_cons (q_tup (a_cons (q_strc [116, 114, 97, 110, 115, 102, 101, 114]) (a_cons (q_var 2) (a_cons (q_un o_neg q_int) (a_cons (q_strc [97, 110, 110]) a_nil))))) a_nil))))))))))))))))))))) (x_one (x_ret (q_ix (q_var 5) (q_bin o_mod (q_callTy c_int (by rfl) m_int (by decide +kernel) (a_cons (q_var 1) a_nil)) q_int) (fun _ _ => rfl))))))))
theorem ok_law {f : Addr} {fd : FuncData} (F : Fun K "law" "law" s_law f fd) {C_Book : Addr} (BK : BkC K C_Book) {C_TooMany : Addr} (T_TooMany : ExcT P w K mg base "TooMany" C_TooMany "limit") {C_BadEvent : Addr} (T_BadEvent : ExcT P w K mg base "BadEvent" C_BadEvent "word") (C_law_club : Cal P w K mg base "_law_club" 1 3 f_law_club) (C_law_books : Cal P w K mg base "_law_books" 3 7 f_law_books) (C_law_cell : Cal P w K mg base "_law_cell" 2 1 f_law_cell) (C_Book_held : CalM P w K mg base C_Book "held" 1 1 f_Book_held) (C_law_wrong : Cal P w K mg base "_law_wrong" 2 1 f_law_wrong) (C_law_told : Cal P w K mg base "_law_told" 2 7 f_law_told) (C_law_made : Cal P w K mg base "_law_made" 2 5 f_law_made) (C_Book_init : CalBX P w K mg base C_Book "Book" C_TooMany "TooMany" "limit" 3 3 f_Book_init) (C_law_merged : Cal P w K mg base "_law_merged" 2 6 f_law_merged) (C_Book_tell : CalMX P w K mg base C_Book "tell" [("BadEvent", C_BadEvent, some "word"), ("TooMany", C_TooMany, some "limit")] 2 6 f_Book_tell) (m_int : mg "int" = none) (m_range : mg "range" = none) (m_len : mg "len" = none) : FnOk P w K mg base CX0 8 f fd ["script"] (SpQ K 1 f_law) :=
  okQ F sc_law b_law fun cdv A outer s H E hr => by
    have nd := sc_law.nd
    exact (x_cons (x_set 1 nd (q_call C_law_club hr (by decide) (by rfl) (a_cons (q_var 0) a_nil))) (x_cons (x_set 2 nd (q_ix (q_call C_law_books hr (by decide) (by rfl) (a_cons (q_var 0) (a_cons (q_var 1) (a_cons q_int a_nil)))) (q_bin o_mod (q_callTy c_int (by rfl) m_int (by decide +kernel) (a_cons (q_call C_law_cell hr (by decide) (by rfl) (a_cons (q_var 0) (a_cons q_int a_nil))) a_nil)) q_int) (fun _ _ => rfl))) (x_cons (x_set 3 nd (q_meth0 BK C_Book_held hr (by decide) (by decide) (q_var 2))) (x_cons (x_for PassesOwn.never rfl (i_rng2 (by rfl) m_range q_int q_int) (g_name 4 nd) (x_cons (x_set 5 nd (q_call C_law_wrong hr (by decide) (by rfl) (a_cons (q_var 1) (a_cons (q_call C_law_cell hr (by decide) (by rfl) (a_cons (q_var 0) (a_cons (q_var 4) a_nil))) a_nil)))) (x_one (x_if (t_w (w_or (t_cmp (o_ne hr) (q_call C_law_told hr (by decide) (by rfl) (a_cons (q_var 2) (a_cons (q_var 5) a_nil))) (q_ix (q_var 5) q_int (fun _ _ => rfl)) (nomark _)) (w_or1 (t_cmp (o_ne hr) (q_meth0 BK C_Book_held hr (by decide) (by decide) (q_var 2)) (q_var 3) (nomark _))))) (x_one (x_ret q_bl)) x_nil)))) (x_cons (x_if (t_w (w_or (t_cmp (o_ne hr) (q_call C_law_made hr (by decide) (by rfl) (a_cons q_int (a_cons (q_var 1) a_nil))) q_int (nomark _)) (w_or (t_cmp (o_ne hr) (q_call C_law_made hr (by decide) (by rfl) (a_cons q_int (a_cons (q_var 1) a_nil))) q_int (nomark _)) (w_or1 (t_cmp o_isnot (q_call C_law_made hr (by decide) (by rfl) (a_cons q_int (a_cons (q_var 1) a_nil))) q_non (nomark _)))))) (x_one (x_ret q_bl)) x_nil) (x_cons (x_set 6 nd (q_ix (q_ix (q_ix (q_var 1) q_int (fun _ _ => rfl)) q_int (fun _ _ => rfl)) q_int (fun _ _ => rfl))) (x_cons (x_set 7 nd (q_makeX0 BK C_Book_init hr (by decide) (by rfl) (a_cons q_int (a_cons (q_tup (a_cons (q_ix (q_var 1) q_int (fun _ _ => rfl)) (a_cons (q_bin o_add (q_slice (q_ix (q_var 1) q_int (fun _ _ => rfl)) p_none (p_some q_int)) (q_tup (a_cons (q_tup (a_cons q_int (a_cons q_int (a_cons q_int a_nil)))) a_nil))) (a_cons (q_ix (q_var 1) q_int (fun _ _ => rfl)) a_nil)))) a_nil)))) (x_cons (x_if (t_w (w_or (t_cmp (o_ne hr) (q_call C_law_merged hr (by decide) (by rfl) (a_cons (q_var 2) (a_cons (q_var 7) a_nil))) (q_strc [111, 116, 104, 101, 114]) (nomark _)) (w_or1 (t_cmp (o_ne hr) (q_meth0 BK C_Book_held hr (by decide) (by decide) (q_var 2)) (q_var 3) (nomark _))))) (x_one (x_ret q_bl)) x_nil) (x_cons (x_set 8 nd (q_makeX0 BK C_Book_init hr (by decide) (by rfl) (a_cons q_int (a_cons (q_var 1) a_nil)))) (x_cons (x_for PassesOwn.never rfl (i_rng1 (by rfl) m_range q_int) (g_name 4 nd) (x_one (x_if (t_cmp o_isnot (q_call C_law_told hr (by decide) (by rfl) (a_cons (q_var 8) (a_cons (q_tup (a_cons (q_strc [115, 116, 97, 107, 101]) (a_cons q_int (a_cons (q_var 6) (a_cons (q_bin o_mod (q_callTy c_int (by rfl) m_int (by decide +kernel) (a_cons (q_var 4) a_nil)) q_int) a_nil))))) a_nil))) q_non (nomark _)) (x_one (x_ret q_bl)) x_nil))) (x_cons (x_if (t_w (w_or (t_cmp (o_ne hr) (q_call C_law_told hr (by decide) (by rfl) (a_cons (q_var 8) (a_cons (q_tup (a_cons (q_strc [115, 116, 97, 107, 101]) (a_cons q_int (a_cons (q_var 6) (a_cons q_int a_nil))))) a_nil))) q_int (nomark _)) (w_or1 (t_cmp (o_ne hr) (q_callB c_len (by rfl) m_len PySem.boot_len (a_cons (q_meth0 BK C_Book_held hr (by decide) (by decide) (q_var 8)) a_nil)) q_int (nomark _))))) (x_one (x_ret q_bl)) x_nil) (x_cons (x_set 5 nd (q_call C_law_wrong hr (by decide) (by rfl) (a_cons (q_var 1) (a_cons (q_call C_law_cell hr (by decide) (by rfl) (a_cons (q_var 0) (a_cons q_int a_nil))) a_nil)))) (x_cons (x_if (t_cmp (o_ne hr) (q_call C_law_told hr (by decide) (by rfl) (a_cons (q_var 8) (a_cons (q_var 5) a_nil))) (q_ix (q_var 5) q_int (fun _ _ => rfl)) (nomark _)) (x_one (x_ret q_bl)) x_nil) (x_cons (x_if (t_cmp o_gt (q_callB c_len (by rfl) m_len PySem.boot_len (a_cons (q_var 3) a_nil)) q_int (nomark _)) (x_cons (x_if (t_w (w_or (t_cmp (o_ne hr) (q_call C_law_merged hr (by decide) (by rfl) (a_cons (q_var 2) (a_cons (q_var 8) a_nil))) q_int (nomark _)) (w_or1 (t_cmp (o_ne hr) (q_meth0 BK C_Book_held hr (by decide) (by decide) (q_var 2)) (q_var 3) (nomark _))))) (x_one (x_ret q_bl)) x_nil) (x_cons (x_for PassesOwn.never rfl (i_seq (q_lst (a_cons (q_ix (q_ix (q_var 3) (q_un o_neg q_int) (fun _ _ => rfl)) q_int (fun _ _ => rfl)) (a_cons q_int a_nil)))) (g_name 9 nd) (x_cons (x_set 10 nd (q_makeX0 BK C_Book_init hr (by decide) (by rfl) (a_cons (q_ix (q_ix (q_var 3) (q_un o_neg q_int) (fun _ _ => rfl)) q_int (fun _ _ => rfl)) (a_cons (q_var 1) a_nil)))) (x_cons (x_for PassesOwn.never rfl (i_rng1 (by rfl) m_range (q_var 9)) (g_name 11 nd) (x_one (x_expr (q_methX0 BK C_Book_tell hr (by decide) (by decide) (q_var 10) (a_cons (q_tup (a_cons (q_strc [115, 116, 97, 107, 101]) (a_cons q_int (a_cons (q_var 6) (a_cons q_int a_nil))))) a_nil))))) (x_one (x_if (t_w (w_or (t_cmp (o_ne hr) (q_call C_law_merged hr (by decide) (by rfl) (a_cons (q_var 2) (a_cons (q_var 10) a_nil))) (q_strc [111, 116, 104, 101, 114]) (nomark _)) (w_or1 (t_cmp (o_ne hr) (q_meth0 BK C_Book_held hr (by decide) (by decide) (q_var 2)) (q_var 3) (nomark _))))) (x_one (x_ret q_bl)) x_nil))))) (x_one (x_ret q_bl)))) x_nil) (x_one (x_ret (q_cmp o_is (q_call C_law_merged hr (by decide) (by rfl) (a_cons (q_var 2) (a_cons (q_var 8) a_nil))) q_non (nomark _))))))))))))))))))
end
theorem all_mk {l : PySem.W.OpenLaw} {w : World} {K : PySem.W.Frag} {h : Heap} {mg : Str → Option Value} {fa : Addr} (X : K.In h) (G : h.Ns mainGlobals mg) (hfa : mg "law" = some (.ref fa))
    {C_Book : Addr} (zB_Book : PySem.W.nsIn K mainGlobals "Book" = some (some (.ref C_Book))) (pgB_Book : PySem.W.plainGet K C_Book Str.empty = true) (hdB_Book : PySem.W.hasDictIn K C_Book = true) (poB_Book : PySem.W.plainOver K C_Book = true) (saB_Book : PySem.W.findIn K (.ref C_Book) "__setattr__" = some (some (.builtin "object.__setattr__")))
    (n0B_Book : PySem.W.findIn K (.ref C_Book) "_source" = some none) (n1B_Book : PySem.W.findIn K (.ref C_Book) "_club" = some none) (n2B_Book : PySem.W.findIn K (.ref C_Book) "_held" = some none) (mkB_Book : PySem.W.makesIn K C_Book = true) (kpB_Book : PySem.W.keepIn K (.ref C_Book) = true)
    {f0 : Addr} {od0 an0 : Option Addr} {sl0 : Array (Option Value)} {oc0 kV0 dc0 pm0 cd0 ct0 : Value}
    (a0 : PySem.W.nsIn K mainGlobals "is_from" = some (some (.ref f0))) (l0 : K.lookup f0 = some ⟨oc0, od0, .func (PySem.W.fnOf "is_from" "is_from" (defArgs s_is_from) (defBody s_is_from) (defScope s_is_from) .none kV0 dc0 pm0 an0 cd0 ct0), sl0⟩) (c0 : PySem.W.codeIn K cd0 "is_from" = true) (k0 : PySem.W.keepIn K (.ref f0) = true)
    {f1 : Addr} {od1 an1 : Option Addr} {sl1 : Array (Option Value)} {oc1 kV1 dc1 pm1 cd1 ct1 : Value}
    (a1 : PySem.W.findIn K (.ref C_Book) "__init__" = some (some (.ref f1))) (i1 : PySem.W.isFn K (.ref f1) = true) (l1 : K.lookup f1 = some ⟨oc1, od1, .func (PySem.W.fnOf "__init__" "Book.__init__" (defArgs s_Book_init) (defBody s_Book_init) (defScope s_Book_init) .none kV1 dc1 pm1 an1 cd1 ct1), sl1⟩) (c1 : PySem.W.codeIn K cd1 "Book.__init__" = true) (k1 : PySem.W.keepIn K (.ref f1) = true)
    {f2 : Addr} {od2 an2 : Option Addr} {sl2 : Array (Option Value)} {oc2 kV2 dc2 pm2 cd2 ct2 : Value}
    (a2 : PySem.W.findIn K (.ref C_Book) "held" = some (some (.ref f2))) (i2 : PySem.W.isFn K (.ref f2) = true) (l2 : K.lookup f2 = some ⟨oc2, od2, .func (PySem.W.fnOf "held" "Book.held" (defArgs s_Book_held) (defBody s_Book_held) (defScope s_Book_held) .none kV2 dc2 pm2 an2 cd2 ct2), sl2⟩) (c2 : PySem.W.codeIn K cd2 "Book.held" = true) (k2 : PySem.W.keepIn K (.ref f2) = true)
    {f3 : Addr} {od3 an3 : Option Addr} {sl3 : Array (Option Value)} {oc3 kV3 dc3 pm3 cd3 ct3 : Value}
    (a3 : PySem.W.nsIn K mainGlobals "is_number" = some (some (.ref f3))) (l3 : K.lookup f3 = some ⟨oc3, od3, .func (PySem.W.fnOf "is_number" "is_number" (defArgs s_is_number) (defBody s_is_number) (defScope s_is_number) .none kV3 dc3 pm3 an3 cd3 ct3), sl3⟩) (c3 : PySem.W.codeIn K cd3 "is_number" = true) (k3 : PySem.W.keepIn K (.ref f3) = true)
    {f4 : Addr} {od4 an4 : Option Addr} {sl4 : Array (Option Value)} {oc4 kV4 dc4 pm4 cd4 ct4 : Value}
    (a4 : PySem.W.nsIn K mainGlobals "run_end" = some (some (.ref f4))) (l4 : K.lookup f4 = some ⟨oc4, od4, .func (PySem.W.fnOf "run_end" "run_end" (defArgs s_run_end) (defBody s_run_end) (defScope s_run_end) .none kV4 dc4 pm4 an4 cd4 ct4), sl4⟩) (c4 : PySem.W.codeIn K cd4 "run_end" = true) (k4 : PySem.W.keepIn K (.ref f4) = true)
    {f5 : Addr} {od5 an5 : Option Addr} {sl5 : Array (Option Value)} {oc5 kV5 dc5 pm5 cd5 ct5 : Value}
    (a5 : PySem.W.nsIn K mainGlobals "token_at" = some (some (.ref f5))) (l5 : K.lookup f5 = some ⟨oc5, od5, .func (PySem.W.fnOf "token_at" "token_at" (defArgs s_token_at) (defBody s_token_at) (defScope s_token_at) .none kV5 dc5 pm5 an5 cd5 ct5), sl5⟩) (c5 : PySem.W.codeIn K cd5 "token_at" = true) (k5 : PySem.W.keepIn K (.ref f5) = true)
    {f6 : Addr} {od6 an6 : Option Addr} {sl6 : Array (Option Value)} {oc6 kV6 dc6 pm6 cd6 ct6 : Value}
    (a6 : PySem.W.nsIn K mainGlobals "tokens" = some (some (.ref f6))) (l6 : K.lookup f6 = some ⟨oc6, od6, .func (PySem.W.fnOf "tokens" "tokens" (defArgs s_tokens) (defBody s_tokens) (defScope s_tokens) .none kV6 dc6 pm6 an6 cd6 ct6), sl6⟩) (c6 : PySem.W.codeIn K cd6 "tokens" = true) (k6 : PySem.W.keepIn K (.ref f6) = true)
    {f7 : Addr} {od7 an7 : Option Addr} {sl7 : Array (Option Value)} {oc7 kV7 dc7 pm7 cd7 ct7 : Value}
    (a7 : PySem.W.nsIn K mainGlobals "is_owner" = some (some (.ref f7))) (l7 : K.lookup f7 = some ⟨oc7, od7, .func (PySem.W.fnOf "is_owner" "is_owner" (defArgs s_is_owner) (defBody s_is_owner) (defScope s_is_owner) .none kV7 dc7 pm7 an7 cd7 ct7), sl7⟩) (c7 : PySem.W.codeIn K cd7 "is_owner" = true) (k7 : PySem.W.keepIn K (.ref f7) = true)
    {f8 : Addr} {od8 an8 : Option Addr} {sl8 : Array (Option Value)} {oc8 kV8 dc8 pm8 cd8 ct8 : Value}
    (a8 : PySem.W.nsIn K mainGlobals "is_race" = some (some (.ref f8))) (l8 : K.lookup f8 = some ⟨oc8, od8, .func (PySem.W.fnOf "is_race" "is_race" (defArgs s_is_race) (defBody s_is_race) (defScope s_is_race) .none kV8 dc8 pm8 an8 cd8 ct8), sl8⟩) (c8 : PySem.W.codeIn K cd8 "is_race" = true) (k8 : PySem.W.keepIn K (.ref f8) = true)
    {f9 : Addr} {od9 an9 : Option Addr} {sl9 : Array (Option Value)} {oc9 kV9 dc9 pm9 cd9 ct9 : Value}
    (a9 : PySem.W.nsIn K mainGlobals "check_clock" = some (some (.ref f9))) (l9 : K.lookup f9 = some ⟨oc9, od9, .func (PySem.W.fnOf "check_clock" "check_clock" (defArgs s_check_clock) (defBody s_check_clock) (defScope s_check_clock) .none kV9 dc9 pm9 an9 cd9 ct9), sl9⟩) (c9 : PySem.W.codeIn K cd9 "check_clock" = true) (k9 : PySem.W.keepIn K (.ref f9) = true)
    {f10 : Addr} {od10 an10 : Option Addr} {sl10 : Array (Option Value)} {oc10 kV10 dc10 pm10 cd10 ct10 : Value}
    (a10 : PySem.W.nsIn K mainGlobals "is_right_clock" = some (some (.ref f10))) (l10 : K.lookup f10 = some ⟨oc10, od10, .func (PySem.W.fnOf "is_right_clock" "is_right_clock" (defArgs s_is_right_clock) (defBody s_is_right_clock) (defScope s_is_right_clock) .none kV10 dc10 pm10 an10 cd10 ct10), sl10⟩) (c10 : PySem.W.codeIn K cd10 "is_right_clock" = true) (k10 : PySem.W.keepIn K (.ref f10) = true)
    {f11 : Addr} {od11 an11 : Option Addr} {sl11 : Array (Option Value)} {oc11 kV11 dc11 pm11 cd11 ct11 : Value}
    (a11 : PySem.W.nsIn K mainGlobals "is_ring" = some (some (.ref f11))) (l11 : K.lookup f11 = some ⟨oc11, od11, .func (PySem.W.fnOf "is_ring" "is_ring" (defArgs s_is_ring) (defBody s_is_ring) (defScope s_is_ring) .none kV11 dc11 pm11 an11 cd11 ct11), sl11⟩) (c11 : PySem.W.codeIn K cd11 "is_ring" = true) (k11 : PySem.W.keepIn K (.ref f11) = true)
    {f12 : Addr} {od12 an12 : Option Addr} {sl12 : Array (Option Value)} {oc12 kV12 dc12 pm12 cd12 ct12 : Value}
    (a12 : PySem.W.nsIn K mainGlobals "is_right" = some (some (.ref f12))) (l12 : K.lookup f12 = some ⟨oc12, od12, .func (PySem.W.fnOf "is_right" "is_right" (defArgs s_is_right) (defBody s_is_right) (defScope s_is_right) .none kV12 dc12 pm12 an12 cd12 ct12), sl12⟩) (c12 : PySem.W.codeIn K cd12 "is_right" = true) (k12 : PySem.W.keepIn K (.ref f12) = true)
    {f13 : Addr} {od13 an13 : Option Addr} {sl13 : Array (Option Value)} {oc13 kV13 dc13 pm13 cd13 ct13 : Value}
    (a13 : PySem.W.findIn K (.ref C_Book) "tell" = some (some (.ref f13))) (i13 : PySem.W.isFn K (.ref f13) = true) (l13 : K.lookup f13 = some ⟨oc13, od13, .func (PySem.W.fnOf "tell" "Book.tell" (defArgs s_Book_tell) (defBody s_Book_tell) (defScope s_Book_tell) .none kV13 dc13 pm13 an13 cd13 ct13), sl13⟩) (c13 : PySem.W.codeIn K cd13 "Book.tell" = true) (k13 : PySem.W.keepIn K (.ref f13) = true)
    {f14 : Addr} {od14 an14 : Option Addr} {sl14 : Array (Option Value)} {oc14 kV14 dc14 pm14 cd14 ct14 : Value}
    (a14 : PySem.W.findIn K (.ref C_Book) "club" = some (some (.ref f14))) (i14 : PySem.W.isFn K (.ref f14) = true) (l14 : K.lookup f14 = some ⟨oc14, od14, .func (PySem.W.fnOf "club" "Book.club" (defArgs s_Book_club) (defBody s_Book_club) (defScope s_Book_club) .none kV14 dc14 pm14 an14 cd14 ct14), sl14⟩) (c14 : PySem.W.codeIn K cd14 "Book.club" = true) (k14 : PySem.W.keepIn K (.ref f14) = true)
    {f15 : Addr} {od15 an15 : Option Addr} {sl15 : Array (Option Value)} {oc15 kV15 dc15 pm15 ct15 : Value}
    {cc15 : Addr}
    (a15 : PySem.W.findIn K (.ref C_Book) "tellings" = some (some (.ref f15))) (i15 : PySem.W.isFn K (.ref f15) = true) (l15 : K.lookup f15 = some ⟨oc15, od15, .func (PySem.W.fnOf "tellings" "Book.tellings" (defArgs s_Book_tellings) (defBody s_Book_tellings) (defScope s_Book_tellings) .none kV15 dc15 pm15 an15 (.ref cc15) ct15), sl15⟩) (c15 : PySem.W.codeIn K (.ref cc15) "Book.tellings" = true) (k15 : PySem.W.keepIn K (.ref f15) = true)
    (ho15 : h.get? 182 = some { cls := .none, data := .fields #[] }) (nl15 : K.lookup 182 = none) (hh15 : PySem.W.codeHdIn K cc15 182 = true)
    {f16 : Addr} {od16 an16 : Option Addr} {sl16 : Array (Option Value)} {oc16 kV16 dc16 pm16 cd16 ct16 : Value}
    (a16 : PySem.W.findIn K (.ref C_Book) "merge" = some (some (.ref f16))) (i16 : PySem.W.isFn K (.ref f16) = true) (l16 : K.lookup f16 = some ⟨oc16, od16, .func (PySem.W.fnOf "merge" "Book.merge" (defArgs s_Book_merge) (defBody s_Book_merge) (defScope s_Book_merge) .none kV16 dc16 pm16 an16 cd16 ct16), sl16⟩) (c16 : PySem.W.codeIn K cd16 "Book.merge" = true) (k16 : PySem.W.keepIn K (.ref f16) = true)
    {f17 : Addr} {od17 an17 : Option Addr} {sl17 : Array (Option Value)} {oc17 kV17 dc17 pm17 cd17 ct17 : Value}
    (a17 : PySem.W.nsIn K mainGlobals "_law_cell" = some (some (.ref f17))) (l17 : K.lookup f17 = some ⟨oc17, od17, .func (PySem.W.fnOf "_law_cell" "_law_cell" (defArgs s_law_cell) (defBody s_law_cell) (defScope s_law_cell) .none kV17 dc17 pm17 an17 cd17 ct17), sl17⟩) (c17 : PySem.W.codeIn K cd17 "_law_cell" = true) (k17 : PySem.W.keepIn K (.ref f17) = true)
    {f18 : Addr} {od18 an18 : Option Addr} {sl18 : Array (Option Value)} {oc18 kV18 dc18 pm18 cd18 ct18 : Value}
    (a18 : PySem.W.nsIn K mainGlobals "_law_digits" = some (some (.ref f18))) (l18 : K.lookup f18 = some ⟨oc18, od18, .func (PySem.W.fnOf "_law_digits" "_law_digits" (defArgs s_law_digits) (defBody s_law_digits) (defScope s_law_digits) .none kV18 dc18 pm18 an18 cd18 ct18), sl18⟩) (c18 : PySem.W.codeIn K cd18 "_law_digits" = true) (k18 : PySem.W.keepIn K (.ref f18) = true)
    {f19 : Addr} {od19 an19 : Option Addr} {sl19 : Array (Option Value)} {oc19 kV19 dc19 pm19 cd19 ct19 : Value}
    (a19 : PySem.W.nsIn K mainGlobals "_law_padded" = some (some (.ref f19))) (l19 : K.lookup f19 = some ⟨oc19, od19, .func (PySem.W.fnOf "_law_padded" "_law_padded" (defArgs s_law_padded) (defBody s_law_padded) (defScope s_law_padded) .none kV19 dc19 pm19 an19 cd19 ct19), sl19⟩) (c19 : PySem.W.codeIn K cd19 "_law_padded" = true) (k19 : PySem.W.keepIn K (.ref f19) = true)
    {f20 : Addr} {od20 an20 : Option Addr} {sl20 : Array (Option Value)} {oc20 kV20 dc20 pm20 cd20 ct20 : Value}
    (a20 : PySem.W.nsIn K mainGlobals "_law_entry" = some (some (.ref f20))) (l20 : K.lookup f20 = some ⟨oc20, od20, .func (PySem.W.fnOf "_law_entry" "_law_entry" (defArgs s_law_entry) (defBody s_law_entry) (defScope s_law_entry) .none kV20 dc20 pm20 an20 cd20 ct20), sl20⟩) (c20 : PySem.W.codeIn K cd20 "_law_entry" = true) (k20 : PySem.W.keepIn K (.ref f20) = true)
    {f21 : Addr} {od21 an21 : Option Addr} {sl21 : Array (Option Value)} {oc21 kV21 dc21 pm21 cd21 ct21 : Value}
    (a21 : PySem.W.nsIn K mainGlobals "_law_books" = some (some (.ref f21))) (l21 : K.lookup f21 = some ⟨oc21, od21, .func (PySem.W.fnOf "_law_books" "_law_books" (defArgs s_law_books) (defBody s_law_books) (defScope s_law_books) .none kV21 dc21 pm21 an21 cd21 ct21), sl21⟩) (c21 : PySem.W.codeIn K cd21 "_law_books" = true) (k21 : PySem.W.keepIn K (.ref f21) = true)
    {f22 : Addr} {od22 an22 : Option Addr} {sl22 : Array (Option Value)} {oc22 kV22 dc22 pm22 cd22 ct22 : Value}
    (a22 : PySem.W.nsIn K mainGlobals "_law_club" = some (some (.ref f22))) (l22 : K.lookup f22 = some ⟨oc22, od22, .func (PySem.W.fnOf "_law_club" "_law_club" (defArgs s_law_club) (defBody s_law_club) (defScope s_law_club) .none kV22 dc22 pm22 an22 cd22 ct22), sl22⟩) (c22 : PySem.W.codeIn K cd22 "_law_club" = true) (k22 : PySem.W.keepIn K (.ref f22) = true)
    {f23 : Addr} {od23 an23 : Option Addr} {sl23 : Array (Option Value)} {oc23 kV23 dc23 pm23 cd23 ct23 : Value}
    (a23 : PySem.W.nsIn K mainGlobals "_law_made" = some (some (.ref f23))) (l23 : K.lookup f23 = some ⟨oc23, od23, .func (PySem.W.fnOf "_law_made" "_law_made" (defArgs s_law_made) (defBody s_law_made) (defScope s_law_made) .none kV23 dc23 pm23 an23 cd23 ct23), sl23⟩) (c23 : PySem.W.codeIn K cd23 "_law_made" = true) (k23 : PySem.W.keepIn K (.ref f23) = true)
    {f24 : Addr} {od24 an24 : Option Addr} {sl24 : Array (Option Value)} {oc24 kV24 dc24 pm24 cd24 ct24 : Value}
    (a24 : PySem.W.nsIn K mainGlobals "_law_merged" = some (some (.ref f24))) (l24 : K.lookup f24 = some ⟨oc24, od24, .func (PySem.W.fnOf "_law_merged" "_law_merged" (defArgs s_law_merged) (defBody s_law_merged) (defScope s_law_merged) .none kV24 dc24 pm24 an24 cd24 ct24), sl24⟩) (c24 : PySem.W.codeIn K cd24 "_law_merged" = true) (k24 : PySem.W.keepIn K (.ref f24) = true)
    {f25 : Addr} {od25 an25 : Option Addr} {sl25 : Array (Option Value)} {oc25 kV25 dc25 pm25 cd25 ct25 : Value}
    (a25 : PySem.W.nsIn K mainGlobals "_law_told" = some (some (.ref f25))) (l25 : K.lookup f25 = some ⟨oc25, od25, .func (PySem.W.fnOf "_law_told" "_law_told" (defArgs s_law_told) (defBody s_law_told) (defScope s_law_told) .none kV25 dc25 pm25 an25 cd25 ct25), sl25⟩) (c25 : PySem.W.codeIn K cd25 "_law_told" = true) (k25 : PySem.W.keepIn K (.ref f25) = true)
    {f26 : Addr} {od26 an26 : Option Addr} {sl26 : Array (Option Value)} {oc26 kV26 dc26 pm26 cd26 ct26 : Value}
    (a26 : PySem.W.nsIn K mainGlobals "_law_wrong" = some (some (.ref f26))) (l26 : K.lookup f26 = some ⟨oc26, od26, .func (PySem.W.fnOf "_law_wrong" "_law_wrong" (defArgs s_law_wrong) (defBody s_law_wrong) (defScope s_law_wrong) .none kV26 dc26 pm26 an26 cd26 ct26), sl26⟩) (c26 : PySem.W.codeIn K cd26 "_law_wrong" = true) (k26 : PySem.W.keepIn K (.ref f26) = true)
    {f27 : Addr} {od27 an27 : Option Addr} {sl27 : Array (Option Value)} {oc27 kV27 dc27 pm27 cd27 ct27 : Value}
    (a27 : PySem.W.nsIn K mainGlobals "law" = some (some (.ref f27))) (l27 : K.lookup f27 = some ⟨oc27, od27, .func (PySem.W.fnOf "law" "law" (defArgs s_law) (defBody s_law) (defScope s_law) .none kV27 dc27 pm27 an27 cd27 ct27), sl27⟩) (c27 : PySem.W.codeIn K cd27 "law" = true) (k27 : PySem.W.keepIn K (.ref f27) = true)
    {C_TooMany fI_TooMany : Addr} (zC_TooMany : PySem.W.nsIn K mainGlobals "TooMany" = some (some (.ref C_TooMany)))
    (cC_TooMany : ∃ nm q N bs bm sn sub ab col dd k0 k1 k2 k3 k5, K.lookup C_TooMany = some (PySem.excClassObj nm q C_TooMany N bs bm true sn sub ab col dd k0 k1 k2 k3 k5 "ValueError.__new__") ∧ PySem.HandSPX.refsVE bm = true)
    (sa_TooMany : PySem.W.findIn K (.ref C_TooMany) "__setattr__" = some (some (.builtin "object.__setattr__"))) (exC_TooMany : PySem.W.subIn K (.ref C_TooMany) (.type "BaseException") = some true) (tyC_TooMany : PySem.W.typeIn K (.ref C_TooMany) = some (.type "type")) (kC_TooMany : PySem.W.keepIn K (.ref C_TooMany) = true)
    (iC_TooMany : PySem.W.findIn K (.ref C_TooMany) "__init__" = some (some (.ref fI_TooMany))) (tI_TooMany : PySem.W.typeIn K (.ref fI_TooMany) = some (.type "function"))  (no_TooMany : PySem.W.findIn K (.ref C_TooMany) "limit" = some none)
    (ga_TooMany : PySem.W.findIn K (.ref C_TooMany) "__getattribute__" = some (some (.builtin "BaseException.__getattribute__"))) (gg_TooMany : PySem.W.findIn K (.ref C_TooMany) "__getattr__" = some none) (hdC_TooMany : PySem.W.hasDictIn K C_TooMany = true) (icC_TooMany : PySem.W.isClsIn K C_TooMany = true) (ssC_TooMany : PySem.W.subIn K (.ref C_TooMany) (.ref C_TooMany) = some true)
    {odI_TooMany anI_TooMany : Option Addr} {slI_TooMany : Array (Option Value)} {ocI_TooMany kVI_TooMany dcI_TooMany pmI_TooMany cdI'_TooMany ctI_TooMany : Value}
    (lI_TooMany : K.lookup fI_TooMany = some ⟨ocI_TooMany, odI_TooMany, .func (PySem.W.fnOf "__init__" "TooMany.__init__" (defArgs s_init_TooMany) (defBody s_init_TooMany) (defScope s_init_TooMany) .none kVI_TooMany dcI_TooMany pmI_TooMany anI_TooMany cdI'_TooMany ctI_TooMany), slI_TooMany⟩) (cdI_TooMany : PySem.W.codeIn K cdI'_TooMany "TooMany.__init__" = true) (kI_TooMany : PySem.W.keepIn K (.ref fI_TooMany) = true)
    {C_BadClock fI_BadClock : Addr} (zC_BadClock : PySem.W.nsIn K mainGlobals "BadClock" = some (some (.ref C_BadClock)))
    (cC_BadClock : ∃ nm q N bs bm sn sub ab col dd k0 k1 k2 k3 k5, K.lookup C_BadClock = some (PySem.excClassObj nm q C_BadClock N bs bm true sn sub ab col dd k0 k1 k2 k3 k5 "ValueError.__new__") ∧ PySem.HandSPX.refsVE bm = true)
    (sa_BadClock : PySem.W.findIn K (.ref C_BadClock) "__setattr__" = some (some (.builtin "object.__setattr__"))) (exC_BadClock : PySem.W.subIn K (.ref C_BadClock) (.type "BaseException") = some true) (tyC_BadClock : PySem.W.typeIn K (.ref C_BadClock) = some (.type "type")) (kC_BadClock : PySem.W.keepIn K (.ref C_BadClock) = true)
    (iC_BadClock : PySem.W.findIn K (.ref C_BadClock) "__init__" = some (some (.ref fI_BadClock))) (tI_BadClock : PySem.W.typeIn K (.ref fI_BadClock) = some (.type "function"))  (no_BadClock : PySem.W.findIn K (.ref C_BadClock) "word" = some none)
    (ga_BadClock : PySem.W.findIn K (.ref C_BadClock) "__getattribute__" = some (some (.builtin "BaseException.__getattribute__"))) (gg_BadClock : PySem.W.findIn K (.ref C_BadClock) "__getattr__" = some none) (hdC_BadClock : PySem.W.hasDictIn K C_BadClock = true) (icC_BadClock : PySem.W.isClsIn K C_BadClock = true) (ssC_BadClock : PySem.W.subIn K (.ref C_BadClock) (.ref C_BadClock) = some true)
    {odI_BadClock anI_BadClock : Option Addr} {slI_BadClock : Array (Option Value)} {ocI_BadClock kVI_BadClock dcI_BadClock pmI_BadClock cdI'_BadClock ctI_BadClock : Value}
    (lI_BadClock : K.lookup fI_BadClock = some ⟨ocI_BadClock, odI_BadClock, .func (PySem.W.fnOf "__init__" "BadClock.__init__" (defArgs s_init_BadClock) (defBody s_init_BadClock) (defScope s_init_BadClock) .none kVI_BadClock dcI_BadClock pmI_BadClock anI_BadClock cdI'_BadClock ctI_BadClock), slI_BadClock⟩) (cdI_BadClock : PySem.W.codeIn K cdI'_BadClock "BadClock.__init__" = true) (kI_BadClock : PySem.W.keepIn K (.ref fI_BadClock) = true)
    {C_BadEvent fI_BadEvent : Addr} (zC_BadEvent : PySem.W.nsIn K mainGlobals "BadEvent" = some (some (.ref C_BadEvent)))
    (cC_BadEvent : ∃ nm q N bs bm sn sub ab col dd k0 k1 k2 k3 k5, K.lookup C_BadEvent = some (PySem.excClassObj nm q C_BadEvent N bs bm true sn sub ab col dd k0 k1 k2 k3 k5 "ValueError.__new__") ∧ PySem.HandSPX.refsVE bm = true)
    (sa_BadEvent : PySem.W.findIn K (.ref C_BadEvent) "__setattr__" = some (some (.builtin "object.__setattr__"))) (exC_BadEvent : PySem.W.subIn K (.ref C_BadEvent) (.type "BaseException") = some true) (tyC_BadEvent : PySem.W.typeIn K (.ref C_BadEvent) = some (.type "type")) (kC_BadEvent : PySem.W.keepIn K (.ref C_BadEvent) = true)
    (iC_BadEvent : PySem.W.findIn K (.ref C_BadEvent) "__init__" = some (some (.ref fI_BadEvent))) (tI_BadEvent : PySem.W.typeIn K (.ref fI_BadEvent) = some (.type "function"))  (no_BadEvent : PySem.W.findIn K (.ref C_BadEvent) "word" = some none)
    (ga_BadEvent : PySem.W.findIn K (.ref C_BadEvent) "__getattribute__" = some (some (.builtin "BaseException.__getattribute__"))) (gg_BadEvent : PySem.W.findIn K (.ref C_BadEvent) "__getattr__" = some none) (hdC_BadEvent : PySem.W.hasDictIn K C_BadEvent = true) (icC_BadEvent : PySem.W.isClsIn K C_BadEvent = true) (ssC_BadEvent : PySem.W.subIn K (.ref C_BadEvent) (.ref C_BadEvent) = some true)
    {odI_BadEvent anI_BadEvent : Option Addr} {slI_BadEvent : Array (Option Value)} {ocI_BadEvent kVI_BadEvent dcI_BadEvent pmI_BadEvent cdI'_BadEvent ctI_BadEvent : Value}
    (lI_BadEvent : K.lookup fI_BadEvent = some ⟨ocI_BadEvent, odI_BadEvent, .func (PySem.W.fnOf "__init__" "BadEvent.__init__" (defArgs s_init_BadEvent) (defBody s_init_BadEvent) (defScope s_init_BadEvent) .none kVI_BadEvent dcI_BadEvent pmI_BadEvent anI_BadEvent cdI'_BadEvent ctI_BadEvent), slI_BadEvent⟩) (cdI_BadEvent : PySem.W.codeIn K cdI'_BadEvent "BadEvent.__init__" = true) (kI_BadEvent : PySem.W.keepIn K (.ref fI_BadEvent) = true)
    {C_OtherClub : Addr} (zC_OtherClub : PySem.W.nsIn K mainGlobals "OtherClub" = some (some (.ref C_OtherClub))) (qC_OtherClub : PySem.W.excIn K C_OtherClub [.type "ValueError", .type "Exception", .type "BaseException", .type "object"] "ValueError.__new__" = true) (kC_OtherClub : PySem.W.keepIn K (.ref C_OtherClub) = true)
    (exC_OtherClub : PySem.W.subIn K (.ref C_OtherClub) (.type "BaseException") = some true) (tyC_OtherClub : PySem.W.typeIn K (.ref C_OtherClub) = some (.type "type")) (icC_OtherClub : PySem.W.isClsIn K C_OtherClub = true) (ssC_OtherClub : PySem.W.subIn K (.ref C_OtherClub) (.ref C_OtherClub) = some true)
    (ss_TooMany_OtherClub : PySem.W.subIn K (.ref C_TooMany) (.ref C_OtherClub) = some false)
    (ss_TooMany_BadEvent : PySem.W.subIn K (.ref C_TooMany) (.ref C_BadEvent) = some false)
    (z_type : PySem.W.nsIn K mainGlobals "type" = some none)
    (z_int : PySem.W.nsIn K mainGlobals "int" = some none)
    (z_list : PySem.W.nsIn K mainGlobals "list" = some none)
    (z_len : PySem.W.nsIn K mainGlobals "len" = some none)
    (z_isinstance : PySem.W.nsIn K mainGlobals "isinstance" = some none)
    (z_str : PySem.W.nsIn K mainGlobals "str" = some none)
    (z_max : PySem.W.nsIn K mainGlobals "max" = some none)
    (z_sorted : PySem.W.nsIn K mainGlobals "sorted" = some none)
    (z_range : PySem.W.nsIn K mainGlobals "range" = some none)
    (z_tuple : PySem.W.nsIn K mainGlobals "tuple" = some none)
    {t_MOST_SOURCES : Tok} (z_MOST_SOURCES : PySem.W.nsIn K mainGlobals "MOST_SOURCES" = some (some (.int 9 t_MOST_SOURCES)))
    {t_LONGEST_NUMBER : Tok} (z_LONGEST_NUMBER : PySem.W.nsIn K mainGlobals "LONGEST_NUMBER" = some (some (.int 4 t_LONGEST_NUMBER)))
    {t_LONGEST_WORD : Tok} (z_LONGEST_WORD : PySem.W.nsIn K mainGlobals "LONGEST_WORD" = some (some (.int 8 t_LONGEST_WORD)))
    {t_LAST_MINUTE : Tok} (z_LAST_MINUTE : PySem.W.nsIn K mainGlobals "LAST_MINUTE" = some (some (.int 9999 t_LAST_MINUTE)))
    {t_MOST_UNITS : Tok} (z_MOST_UNITS : PySem.W.nsIn K mainGlobals "MOST_UNITS" = some (some (.int 1000 t_MOST_UNITS)))
    {t_LAST_READING : Tok} (z_LAST_READING : PySem.W.nsIn K mainGlobals "LAST_READING" = some (some (.int 9999 t_LAST_READING)))
    {t_MOST_TELLINGS : Tok} (z_MOST_TELLINGS : PySem.W.nsIn K mainGlobals "MOST_TELLINGS" = some (some (.int 80 t_MOST_TELLINGS)))
    {a1_KINDS : Addr} {n1_KINDS : Nat} {s1_KINDS : Array (Option Value)} {t2_KINDS : Tok} {t3_KINDS : Tok} {t4_KINDS : Tok} {t5_KINDS : Tok} (z_KINDS : PySem.W.nsIn K mainGlobals "KINDS" = some (some (.ref a1_KINDS))) (y1_KINDS : K.lookup a1_KINDS = some ⟨.type "tuple", none, .seq #[(.str ⟨#[99, 108, 111, 99, 107]⟩ t2_KINDS), (.str ⟨#[115, 108, 105, 112]⟩ t3_KINDS), (.str ⟨#[115, 116, 97, 107, 101]⟩ t4_KINDS), (.str ⟨#[116, 114, 97, 110, 115, 102, 101, 114]⟩ t5_KINDS)] n1_KINDS, s1_KINDS⟩)
    {d_SIZES : Addr} (z_SIZES : PySem.W.nsIn K mainGlobals "SIZES" = some (some (.ref d_SIZES))) (kd_SIZES : ∃ es n, KDict K w d_SIZES es n)
    {t1_SIZES_0 : Tok} (e0_SIZES : PySem.W.nsIn K d_SIZES ⟨#[99, 108, 111, 99, 107]⟩ = some (some (.int 6 t1_SIZES_0)))
    {t1_SIZES_1 : Tok} (e1_SIZES : PySem.W.nsIn K d_SIZES ⟨#[115, 108, 105, 112]⟩ = some (some (.int 4 t1_SIZES_1)))
    {t1_SIZES_2 : Tok} (e2_SIZES : PySem.W.nsIn K d_SIZES ⟨#[115, 116, 97, 107, 101]⟩ = some (some (.int 4 t1_SIZES_2)))
    {t1_SIZES_3 : Tok} (e3_SIZES : PySem.W.nsIn K d_SIZES ⟨#[116, 114, 97, 110, 115, 102, 101, 114]⟩ = some (some (.int 4 t1_SIZES_3)))
    (goal : ∀ ns : List Int, ns.length ≤ 63 → ∀ o, scrO o ns → ∃ m', f_law [.ref 0] [o, .tbl 182 "Book.tellings.<locals>.<lambda>"] = .ok (.bl true) m')
    : LamX.LawAtS l w K CX0 8 63 "script" mg fa h := by
  have e := hfa.symm.trans (PySem.W.mg_of X G a27)
  cases e
  have m_type := PySem.W.mg_none_of X G z_type
  have m_int := PySem.W.mg_none_of X G z_int
  have m_list := PySem.W.mg_none_of X G z_list
  have m_len := PySem.W.mg_none_of X G z_len
  have m_isinstance := PySem.W.mg_none_of X G z_isinstance
  have m_str := PySem.W.mg_none_of X G z_str
  have m_max := PySem.W.mg_none_of X G z_max
  have m_sorted := PySem.W.mg_none_of X G z_sorted
  have m_range := PySem.W.mg_none_of X G z_range
  have m_tuple := PySem.W.mg_none_of X G z_tuple
  have m_MOST_SOURCES := PySem.W.mg_of X G z_MOST_SOURCES
  have m_LONGEST_NUMBER := PySem.W.mg_of X G z_LONGEST_NUMBER
  have m_LONGEST_WORD := PySem.W.mg_of X G z_LONGEST_WORD
  have m_LAST_MINUTE := PySem.W.mg_of X G z_LAST_MINUTE
  have m_MOST_UNITS := PySem.W.mg_of X G z_MOST_UNITS
  have m_LAST_READING := PySem.W.mg_of X G z_LAST_READING
  have m_MOST_TELLINGS := PySem.W.mg_of X G z_MOST_TELLINGS
  have m_KINDS := PySem.W.mg_of X G z_KINDS
  have m_SIZES := PySem.W.mg_of X G z_SIZES
  have kv_KINDS : KV K (.tup [(.str [99, 108, 111, 99, 107]), (.str [115, 108, 105, 112]), (.str [115, 116, 97, 107, 101]), (.str [116, 114, 97, 110, 115, 102, 101, 114])]) (.ref a1_KINDS) := (kv_tup y1_KINDS (by show 4 ≤ sizeLine; decide) (.cons rel_str (.cons rel_str (.cons rel_str (.cons rel_str .nil)))) (kv_cons kv_str (kv_cons kv_str (kv_cons kv_str (kv_cons kv_str kv_nil)))))
  have kt_SIZES : KTab K w d_SIZES T_SIZES := by
    refine ⟨kd_SIZES, fun p hp => ?_⟩
    rcases List.mem_cons.mp hp with rfl | hp
    · exact ⟨_, .int 6, e0_SIZES, rel_int, kv_int⟩
    rcases List.mem_cons.mp hp with rfl | hp
    · exact ⟨_, .int 4, e1_SIZES, rel_int, kv_int⟩
    rcases List.mem_cons.mp hp with rfl | hp
    · exact ⟨_, .int 4, e2_SIZES, rel_int, kv_int⟩
    rcases List.mem_cons.mp hp with rfl | hp
    · exact ⟨_, .int 4, e3_SIZES, rel_int, kv_int⟩
    cases hp
  have BK : BkC K C_Book := ⟨zB_Book, ⟨pgB_Book, hdB_Book, poB_Book, saB_Book⟩, fun f hf => by
    rcases List.mem_cons.mp hf with rfl | hf
    · exact n0B_Book
    rcases List.mem_cons.mp hf with rfl | hf
    · exact n1B_Book
    rcases List.mem_cons.mp hf with rfl | hf
    · exact n2B_Book
    cases hf⟩
  have gB_Book := PySem.W.mg_of X G zB_Book
  have F0 := fun_mk (st := s_is_from) l0 c0 k0
  have g0 := PySem.W.mg_of X G a0
  have b0 := F0.binds (ps := ["told", "low", "high"]) fun _ _ _ _ _ _ us hl => match us, hl with | [_, _, _], _ => rfl
  have F1 := fun_mk (st := s_Book_init) l1 c1 k1
  have b1 := F1.binds (ps := ["self", "source", "club"]) fun _ _ _ _ _ _ us hl => match us, hl with | [_, _, _], _ => rfl
  have F2 := fun_mk (st := s_Book_held) l2 c2 k2
  have b2 := F2.binds (ps := ["self"]) fun _ _ _ _ _ _ us hl => match us, hl with | [_], _ => rfl
  have F3 := fun_mk (st := s_is_number) l3 c3 k3
  have g3 := PySem.W.mg_of X G a3
  have b3 := F3.binds (ps := ["digits"]) fun _ _ _ _ _ _ us hl => match us, hl with | [_], _ => rfl
  have F4 := fun_mk (st := s_run_end) l4 c4 k4
  have g4 := PySem.W.mg_of X G a4
  have b4 := F4.binds (ps := ["line", "at", "low", "high"]) fun _ _ _ _ _ _ us hl => match us, hl with | [_, _, _, _], _ => rfl
  have F5 := fun_mk (st := s_token_at) l5 c5 k5
  have g5 := PySem.W.mg_of X G a5
  have b5 := F5.binds (ps := ["line", "at"]) fun _ _ _ _ _ _ us hl => match us, hl with | [_, _], _ => rfl
  have F6 := fun_mk (st := s_tokens) l6 c6 k6
  have g6 := PySem.W.mg_of X G a6
  have b6 := F6.binds (ps := ["line"]) fun _ _ _ _ _ _ us hl => match us, hl with | [_], _ => rfl
  have F7 := fun_mk (st := s_is_owner) l7 c7 k7
  have g7 := PySem.W.mg_of X G a7
  have b7 := F7.binds (ps := ["told"]) fun _ _ _ _ _ _ us hl => match us, hl with | [_], _ => rfl
  have F8 := fun_mk (st := s_is_race) l8 c8 k8
  have g8 := PySem.W.mg_of X G a8
  have b8 := F8.binds (ps := ["club", "told"]) fun _ _ _ _ _ _ us hl => match us, hl with | [_, _], _ => rfl
  have F9 := fun_mk (st := s_check_clock) l9 c9 k9
  have g9 := PySem.W.mg_of X G a9
  have b9 := F9.binds (ps := ["club", "clock"]) fun _ _ _ _ _ _ us hl => match us, hl with | [_, _], _ => rfl
  have F10 := fun_mk (st := s_is_right_clock) l10 c10 k10
  have g10 := PySem.W.mg_of X G a10
  have b10 := F10.binds (ps := ["club", "clock"]) fun _ _ _ _ _ _ us hl => match us, hl with | [_, _], _ => rfl
  have F11 := fun_mk (st := s_is_ring) l11 c11 k11
  have g11 := PySem.W.mg_of X G a11
  have b11 := F11.binds (ps := ["club", "told"]) fun _ _ _ _ _ _ us hl => match us, hl with | [_, _], _ => rfl
  have F12 := fun_mk (st := s_is_right) l12 c12 k12
  have g12 := PySem.W.mg_of X G a12
  have b12 := F12.binds (ps := ["club", "entry"]) fun _ _ _ _ _ _ us hl => match us, hl with | [_, _], _ => rfl
  have F13 := fun_mk (st := s_Book_tell) l13 c13 k13
  have b13 := F13.binds (ps := ["self", "entry"]) fun _ _ _ _ _ _ us hl => match us, hl with | [_, _], _ => rfl
  have F14 := fun_mk (st := s_Book_club) l14 c14 k14
  have b14 := F14.binds (ps := ["self"]) fun _ _ _ _ _ _ us hl => match us, hl with | [_], _ => rfl
  have F15 := fun_mk (st := s_Book_tellings) l15 c15 k15
  have b15 := F15.binds (ps := ["self"]) fun _ _ _ _ _ _ us hl => match us, hl with | [_], _ => rfl
  have F16 := fun_mk (st := s_Book_merge) l16 c16 k16
  have b16 := F16.binds (ps := ["self", "other"]) fun _ _ _ _ _ _ us hl => match us, hl with | [_, _], _ => rfl
  have F17 := fun_mk (st := s_law_cell) l17 c17 k17
  have g17 := PySem.W.mg_of X G a17
  have b17 := F17.binds (ps := ["script", "k"]) fun _ _ _ _ _ _ us hl => match us, hl with | [_, _], _ => rfl
  have F18 := fun_mk (st := s_law_digits) l18 c18 k18
  have g18 := PySem.W.mg_of X G a18
  have b18 := F18.binds (ps := ["cell", "k", "most"]) fun _ _ _ _ _ _ us hl => match us, hl with | [_, _, _], _ => rfl
  have F19 := fun_mk (st := s_law_padded) l19 c19 k19
  have g19 := PySem.W.mg_of X G a19
  have b19 := F19.binds (ps := ["cell", "k"]) fun _ _ _ _ _ _ us hl => match us, hl with | [_, _], _ => rfl
  have F20 := fun_mk (st := s_law_entry) l20 c20 k20
  have g20 := PySem.W.mg_of X G a20
  have b20 := F20.binds (ps := ["cell", "k", "club"]) fun _ _ _ _ _ _ us hl => match us, hl with | [_, _, _], _ => rfl
  have F21 := fun_mk (st := s_law_books) l21 c21 k21
  have g21 := PySem.W.mg_of X G a21
  have b21 := F21.binds (ps := ["script", "club", "first"]) fun _ _ _ _ _ _ us hl => match us, hl with | [_, _, _], _ => rfl
  have F22 := fun_mk (st := s_law_club) l22 c22 k22
  have g22 := PySem.W.mg_of X G a22
  have b22 := F22.binds (ps := ["script"]) fun _ _ _ _ _ _ us hl => match us, hl with | [_], _ => rfl
  have F23 := fun_mk (st := s_law_made) l23 c23 k23
  have g23 := PySem.W.mg_of X G a23
  have b23 := F23.binds (ps := ["source", "club"]) fun _ _ _ _ _ _ us hl => match us, hl with | [_, _], _ => rfl
  have F24 := fun_mk (st := s_law_merged) l24 c24 k24
  have g24 := PySem.W.mg_of X G a24
  have b24 := F24.binds (ps := ["book", "other"]) fun _ _ _ _ _ _ us hl => match us, hl with | [_, _], _ => rfl
  have F25 := fun_mk (st := s_law_told) l25 c25 k25
  have g25 := PySem.W.mg_of X G a25
  have b25 := F25.binds (ps := ["book", "entry"]) fun _ _ _ _ _ _ us hl => match us, hl with | [_, _], _ => rfl
  have F26 := fun_mk (st := s_law_wrong) l26 c26 k26
  have g26 := PySem.W.mg_of X G a26
  have b26 := F26.binds (ps := ["club", "k"]) fun _ _ _ _ _ _ us hl => match us, hl with | [_, _], _ => rfl
  have F27 := fun_mk (st := s_law) l27 c27 k27
  have g27 := PySem.W.mg_of X G a27
  have b27 := F27.binds (ps := ["script"]) fun _ _ _ _ _ _ us hl => match us, hl with | [_], _ => rfl
  refine ⟨PySem.W.fnOf "law" "law" (defArgs s_law) (defBody s_law) (defScope s_law) .none kV27 dc27 pm27 an27 cd27 ct27, [(cc15, 182)], SpQ K 1 f_law, fun p hp => by (obtain rfl := List.mem_singleton.mp hp; exact ho15), fun p hp => by (obtain rfl := List.mem_singleton.mp hp; exact nl15), fun p hp => by (obtain rfl := List.mem_singleton.mp hp; exact PySem.W.codeHd_of_K X hh15), fun s v => .of_eq rfl, fun H a ns hl _ hT hS => law_spT (P := 182) (q := "Book.tellings.<locals>.<lambda>") (goal ns hl) (hT _ List.mem_cons_self) nl15 hS, fun base _ _ hTB => ?_⟩
  have TB := hTB (cc15, 182) List.mem_cons_self
  have FI_TooMany := fun_mk (st := s_init_TooMany) lI_TooMany cdI_TooMany kI_TooMany
  have TO_TooMany : OexC K C_TooMany := ⟨cC_TooMany, sa_TooMany, exC_TooMany, tyC_TooMany, kC_TooMany⟩
  have bI_TooMany := FI_TooMany.binds (ps := ["self", "limit"]) fun _ _ _ _ _ _ us hl => match us, hl with | [_, _], _ => rfl
  have T_TooMany : ExcT l.prog w K mg base "TooMany" C_TooMany "limit" := ⟨PySem.W.mg_of X G zC_TooMany, TO_TooMany, ⟨fI_TooMany, _, iC_TooMany, tI_TooMany, okI FI_TooMany sc_init_TooMany rfl TO_TooMany no_TooMany (fun cdv A outer s H E => pss_one (ps_ost (pe_var (i := 0) rfl (by first | exact Or.inl rfl | exact Or.inr (Or.inl rfl) | exact Or.inr (Or.inr rfl))) (pe_var (i := 1) rfl (by first | exact Or.inl rfl | exact Or.inr (Or.inl rfl) | exact Or.inr (Or.inr rfl))))), bI_TooMany⟩, no_TooMany, ⟨ga_TooMany, gg_TooMany, exC_TooMany, hdC_TooMany⟩, exm_own exC_TooMany icC_TooMany tyC_TooMany ssC_TooMany⟩
  have FI_BadClock := fun_mk (st := s_init_BadClock) lI_BadClock cdI_BadClock kI_BadClock
  have TO_BadClock : OexC K C_BadClock := ⟨cC_BadClock, sa_BadClock, exC_BadClock, tyC_BadClock, kC_BadClock⟩
  have bI_BadClock := FI_BadClock.binds (ps := ["self", "word"]) fun _ _ _ _ _ _ us hl => match us, hl with | [_, _], _ => rfl
  have T_BadClock : ExcT l.prog w K mg base "BadClock" C_BadClock "word" := ⟨PySem.W.mg_of X G zC_BadClock, TO_BadClock, ⟨fI_BadClock, _, iC_BadClock, tI_BadClock, okI FI_BadClock sc_init_BadClock rfl TO_BadClock no_BadClock (fun cdv A outer s H E => pss_one (ps_ost (pe_var (i := 0) rfl (by first | exact Or.inl rfl | exact Or.inr (Or.inl rfl) | exact Or.inr (Or.inr rfl))) (pe_var (i := 1) rfl (by first | exact Or.inl rfl | exact Or.inr (Or.inl rfl) | exact Or.inr (Or.inr rfl))))), bI_BadClock⟩, no_BadClock, ⟨ga_BadClock, gg_BadClock, exC_BadClock, hdC_BadClock⟩, exm_own exC_BadClock icC_BadClock tyC_BadClock ssC_BadClock⟩
  have FI_BadEvent := fun_mk (st := s_init_BadEvent) lI_BadEvent cdI_BadEvent kI_BadEvent
  have TO_BadEvent : OexC K C_BadEvent := ⟨cC_BadEvent, sa_BadEvent, exC_BadEvent, tyC_BadEvent, kC_BadEvent⟩
  have bI_BadEvent := FI_BadEvent.binds (ps := ["self", "word"]) fun _ _ _ _ _ _ us hl => match us, hl with | [_, _], _ => rfl
  have T_BadEvent : ExcT l.prog w K mg base "BadEvent" C_BadEvent "word" := ⟨PySem.W.mg_of X G zC_BadEvent, TO_BadEvent, ⟨fI_BadEvent, _, iC_BadEvent, tI_BadEvent, okI FI_BadEvent sc_init_BadEvent rfl TO_BadEvent no_BadEvent (fun cdv A outer s H E => pss_one (ps_ost (pe_var (i := 0) rfl (by first | exact Or.inl rfl | exact Or.inr (Or.inl rfl) | exact Or.inr (Or.inr rfl))) (pe_var (i := 1) rfl (by first | exact Or.inl rfl | exact Or.inr (Or.inl rfl) | exact Or.inr (Or.inr rfl))))), bI_BadEvent⟩, no_BadEvent, ⟨ga_BadEvent, gg_BadEvent, exC_BadEvent, hdC_BadEvent⟩, exm_own exC_BadEvent icC_BadEvent tyC_BadEvent ssC_BadEvent⟩
  have T_OtherClub : Exc0T K mg "OtherClub" C_OtherClub := ⟨PySem.W.mg_of X G zC_OtherClub, qC_OtherClub, kC_OtherClub, exC_OtherClub, tyC_OtherClub, exm_own exC_OtherClub icC_OtherClub tyC_OtherClub ssC_OtherClub⟩
  have te_TooMany_OtherClub := exm_two (A := C_TooMany) exC_OtherClub icC_OtherClub tyC_OtherClub ss_TooMany_OtherClub
  have te_TooMany_BadEvent := exm_two (A := C_TooMany) exC_BadEvent icC_BadEvent tyC_BadEvent ss_TooMany_BadEvent
  have C_is_from : Cal l.prog w K mg base "is_from" 3 1 f_is_from := cal_mk rfl (ok_is_from F0 m_type m_int) F0 g0 b0
  have C_Book_init : CalBX l.prog w K mg base C_Book "Book" C_TooMany "TooMany" "limit" 3 3 f_Book_init := ⟨_, _, _, rfl, ok_Book_init F1 BK T_TooMany C_is_from m_MOST_SOURCES, ⟨mkB_Book, a1, i1, kpB_Book⟩, gB_Book, b1⟩
  have C_Book_held : CalM l.prog w K mg base C_Book "held" 1 1 f_Book_held := calM_mk rfl (ok_Book_held F2 BK m_list) ⟨a2, i2, k2⟩ b2
  have C_is_number : Cal l.prog w K mg base "is_number" 1 1 f_is_number := cal_mk rfl (ok_is_number F3 m_len m_LONGEST_NUMBER) F3 g3 b3
  have C_run_end : Cal l.prog w K mg base "run_end" 4 1 f_run_end := cal_mk rfl (ok_run_end F4 m_len) F4 g4 b4
  have C_token_at : Cal l.prog w K mg base "token_at" 2 2 f_token_at := cal_mk rfl (ok_token_at F5 C_run_end C_is_number m_LONGEST_WORD) F5 g5 b5
  have C_tokens : Cal l.prog w K mg base "tokens" 1 3 f_tokens := cal_mk rfl (ok_tokens F6 C_token_at m_len) F6 g6 b6
  have C_is_owner : Cal l.prog w K mg base "is_owner" 1 4 f_is_owner := cal_mk rfl (ok_is_owner F7 C_tokens m_isinstance m_str) F7 g7 b7
  have C_is_race : Cal l.prog w K mg base "is_race" 2 2 f_is_race := cal_mk rfl (ok_is_race F8 C_is_from m_len) F8 g8 b8
  have C_check_clock : CalX l.prog w K mg base C_BadClock "BadClock" "word" "check_clock" 2 3 f_check_clock := calX_mk rfl (ok_check_clock F9 T_BadClock C_is_from m_len m_LAST_MINUTE) F9 g9 b9
  have C_is_right_clock : Cal l.prog w K mg base "is_right_clock" 2 4 f_is_right_clock := cal_mk rfl (ok_is_right_clock F10 T_BadClock C_check_clock) F10 g10 b10
  have C_is_ring : Cal l.prog w K mg base "is_ring" 2 1 f_is_ring := cal_mk rfl (ok_is_ring F11 m_type m_int) F11 g11 b11
  have C_is_right : Cal l.prog w K mg base "is_right" 2 5 f_is_right := cal_mk rfl (ok_is_right F12 C_is_right_clock C_is_ring C_is_race C_is_owner C_is_from m_len m_MOST_UNITS m_LAST_READING m_KINDS kv_KINDS m_SIZES kt_SIZES) F12 g12 b12
  have C_Book_tell : CalMX l.prog w K mg base C_Book "tell" [("BadEvent", C_BadEvent, some "word"), ("TooMany", C_TooMany, some "limit")] 2 6 f_Book_tell := calMX_mk rfl (ok_Book_tell F13 BK T_BadEvent T_TooMany C_is_right m_len m_max m_MOST_TELLINGS) ⟨a13, i13, k13⟩ b13
  have C_Book_club : CalM l.prog w K mg base C_Book "club" 1 1 f_Book_club := calM_mk rfl (ok_Book_club F14 BK) ⟨a14, i14, k14⟩ b14
  have C_Book_tellings : CalM l.prog w K mg base C_Book "tellings" 1 4 f_Book_tellings := calM_mk rfl (ok_Book_tellings l15 c15 TB BK m_sorted) ⟨a15, i15, k15⟩ b15
  have C_Book_merge : CalMX l.prog w K mg base C_Book "merge" [("OtherClub", C_OtherClub, none), ("TooMany", C_TooMany, some "limit")] 2 5 f_Book_merge := calMX_mk rfl (ok_Book_merge F16 BK T_TooMany T_OtherClub C_Book_club C_Book_tellings m_len m_MOST_TELLINGS) ⟨a16, i16, k16⟩ b16
  have C_law_cell : Cal l.prog w K mg base "_law_cell" 2 1 f_law_cell := cal_mk rfl (ok_law_cell F17 m_len) F17 g17 b17
  have C_law_digits : Cal l.prog w K mg base "_law_digits" 3 1 f_law_digits := cal_mk rfl (ok_law_digits F18 m_range m_len m_int) F18 g18 b18
  have C_law_padded : Cal l.prog w K mg base "_law_padded" 2 2 f_law_padded := cal_mk rfl (ok_law_padded F19 C_law_digits m_range) F19 g19 b19
  have C_law_entry : Cal l.prog w K mg base "_law_entry" 3 3 f_law_entry := cal_mk rfl (ok_law_entry F20 C_law_padded m_int m_len) F20 g20 b20
  have C_law_books : Cal l.prog w K mg base "_law_books" 3 7 f_law_books := cal_mk rfl (ok_law_books F21 BK T_TooMany T_BadEvent T_OtherClub C_Book_init C_law_cell C_Book_merge C_Book_tell C_law_entry m_range m_int m_len) F21 g21 b21
  have C_law_club : Cal l.prog w K mg base "_law_club" 1 3 f_law_club := cal_mk rfl (ok_law_club F22 C_law_cell C_law_padded m_range m_int m_len m_tuple) F22 g22 b22
  have C_law_made : Cal l.prog w K mg base "_law_made" 2 5 f_law_made := cal_mk rfl (ok_law_made F23 BK T_TooMany C_Book_init) F23 g23 b23
  have C_law_merged : Cal l.prog w K mg base "_law_merged" 2 6 f_law_merged := cal_mk rfl (ok_law_merged F24 BK T_TooMany T_OtherClub te_TooMany_OtherClub C_Book_merge) F24 g24 b24
  have C_law_told : Cal l.prog w K mg base "_law_told" 2 7 f_law_told := cal_mk rfl (ok_law_told F25 BK T_BadEvent T_TooMany te_TooMany_BadEvent C_Book_tell) F25 g25 b25
  have C_law_wrong : Cal l.prog w K mg base "_law_wrong" 2 1 f_law_wrong := cal_mk rfl (ok_law_wrong F26 m_len m_int) F26 g26 b26
  exact ok_law F27 BK T_TooMany T_BadEvent C_law_club C_law_books C_law_cell C_Book_held C_law_wrong C_law_told C_law_made C_Book_init C_law_merged C_Book_tell m_int m_range m_len
/-- what is left: the law's own reckoning -/
def Goal : Prop := ∀ ns : List Int, ns.length ≤ 63 → ∀ o, scrO o ns → ∃ m', f_law [.ref 0] [o, .tbl tabP "Book.tellings.<locals>.<lambda>"] = .ok (.bl true) m'
end Lw
set_option Elab.async false
set_option linter.all false
set_option maxRecDepth 100000
set_option maxHeartbeats 400000
namespace Lw
open PySem PySem.Spec PyProof.Rows L2 SM
local macro_rules | `(tactic| walk_at "w1") => `(tactic| try simp -dsimp only [wp_fn, s_nil, s_brk, s_cnt, s_expr, s_ret, s_retN, s_if, s_asn, s_par, s_asg, g_nm, g_nil, g_cons, g_tupT, g_subW,
  w_v0, w_vS, w_c, w_op, w_un, w_anil, w_acons, w_tup, w_lst, w_call, w_callU, w_isi, w_meth, w_tru, w_bool, w_notS, w_andS, w_orS, w_ifx, w_andV, w_orV, w_notV, w_chain,
  wp_ok, wp_bad, wp_some, wp_none, wp_liftif, wp_if, asB_b, wp_noex,
  add_ii, sub_ii, mul_ii, fdiv_ii, mod_ii, pow_ii, neg_i, cmp_ii, lt_ii, le_ii, gt_ii, ge_ii, le_cc, muls_ii, muls_si, ins_cs, iadd_ii, isub_ii, w_onone, w_osome, w_sl, sl_s, sl_t, s_aug, eq_ss, len_s, ix_s, add_ss, str_s, tuple_t, list_t, is_n, not_n, non_n, non_i, non_b, non_s, non_t, non_r, abs_i, max_ii, min_ii, int_i, int_b, gcd_ii, len_t, ix_t, eq_v, ne_v, eq_ii, eq_bb, eq_nn, eq_in, eq_ni, iv_n_list, iv_n_tuple, iv_n_bool, iv_n_str, iv_n_int, okt_n, iv_b_list, iv_b_tuple, iv_b_bool, iv_b_str, iv_b_int, okt_b, iv_i_list, iv_i_tuple, iv_i_bool, iv_i_str, iv_i_int, okt_i, iv_s_list, iv_s_tuple, iv_s_bool, iv_s_str, iv_s_int, okt_s, iv_t_list, iv_t_tuple, iv_t_bool, iv_t_str, iv_t_int, okt_t, iv_r_list, iv_r_tuple, iv_r_bool, iv_r_str, iv_r_int, tru_b, tru_i, tru_n, tru_t, Option.map_some, Option.map_none,
  List.map_cons, List.map_nil, List.length_cons, List.length_nil, List.set_cons_zero, List.set_cons_succ, List.cons_append, List.nil_append, List.replicate, Nat.reduceAdd, Nat.reduceSub, Nat.reduceLeDiff, true_and, and_true, decide_eq_true_eq, reduceIte, Bool.false_eq_true, Bool.not_true, Bool.not_false, decide_true, decide_false])
local macro_rules | `(tactic| walk_at "wp") => `(tactic| try simp -dsimp only [s_seq, wp_fn, s_nil, s_brk, s_cnt, s_expr, s_ret, s_retN, s_if, s_asn, s_par, s_asg, g_nm, g_nil, g_cons, g_tupT, g_subW,
  w_v0, w_vS, w_c, w_op, w_un, w_anil, w_acons, w_tup, w_lst, w_call, w_callU, w_isi, w_meth, w_tru, w_bool, w_notS, w_andS, w_orS, w_ifx, w_andV, w_orV, w_notV, w_chain,
  wp_ok, wp_bad, wp_some, wp_none, wp_liftif, wp_if, asB_b, wp_noex,
  add_ii, sub_ii, mul_ii, fdiv_ii, mod_ii, pow_ii, neg_i, cmp_ii, lt_ii, le_ii, gt_ii, ge_ii, le_cc, muls_ii, muls_si, ins_cs, iadd_ii, isub_ii, w_onone, w_osome, w_sl, sl_s, sl_t, s_aug, eq_ss, len_s, ix_s, add_ss, str_s, tuple_t, list_t, is_n, not_n, non_n, non_i, non_b, non_s, non_t, non_r, abs_i, max_ii, min_ii, int_i, int_b, gcd_ii, len_t, ix_t, eq_v, ne_v, eq_ii, eq_bb, eq_nn, eq_in, eq_ni, iv_n_list, iv_n_tuple, iv_n_bool, iv_n_str, iv_n_int, okt_n, iv_b_list, iv_b_tuple, iv_b_bool, iv_b_str, iv_b_int, okt_b, iv_i_list, iv_i_tuple, iv_i_bool, iv_i_str, iv_i_int, okt_i, iv_s_list, iv_s_tuple, iv_s_bool, iv_s_str, iv_s_int, okt_s, iv_t_list, iv_t_tuple, iv_t_bool, iv_t_str, iv_t_int, okt_t, iv_r_list, iv_r_tuple, iv_r_bool, iv_r_str, iv_r_int, tru_b, tru_i, tru_n, tru_t, Option.map_some, Option.map_none,
  List.map_cons, List.map_nil, List.length_cons, List.length_nil, List.set_cons_zero, List.set_cons_succ, List.cons_append, List.nil_append, List.replicate, Nat.reduceAdd, Nat.reduceSub, Nat.reduceLeDiff, true_and, and_true, decide_eq_true_eq, reduceIte, Bool.false_eq_true, Bool.not_true, Bool.not_false, decide_true, decide_false])
local macro_rules | `(tactic| walk_at "sq") => `(tactic| (rw [s_seq]; walk_at "w1"))
local macro_rules | `(tactic| walk_at "w0") => `(tactic| try simp -dsimp only [at0, at0, at1, at2, at3, at4, at5, at6, wp_fn, s_nil, s_brk, s_cnt, s_expr, s_ret, s_retN, s_if, s_asn, s_par, s_asg, g_nm, g_nil, g_cons, g_tupT, g_subW, w_v0, w_vS, w_c, w_op, w_un, w_anil, w_acons, w_tup, w_lst, w_call, w_callU, w_isi, w_meth, w_tru, w_bool, w_notS, w_andS, w_orS, w_ifx, w_andV, w_orV, w_notV, w_chain, wp_ok, wp_bad, wp_some, wp_none, wp_liftif, wp_if, asB_b, wp_noex, add_ii, sub_ii, mul_ii, fdiv_ii, mod_ii, pow_ii, neg_i, cmp_ii, lt_ii, le_ii, gt_ii, ge_ii, le_cc, muls_ii, muls_si, ins_cs, iadd_ii, isub_ii, w_onone, w_osome, w_sl, sl_s, sl_t, s_aug, eq_ss, len_s, ix_s, add_ss, str_s, tuple_t, list_t, is_n, not_n, non_n, non_i, non_b, non_s, non_t, non_r, abs_i, max_ii, min_ii, int_i, int_b, gcd_ii, len_t, ix_t, eq_v, ne_v, eq_ii, eq_bb, eq_nn, eq_in, eq_ni, iv_n_list, iv_n_tuple, iv_n_bool, iv_n_str, iv_n_int, okt_n, iv_b_list, iv_b_tuple, iv_b_bool, iv_b_str, iv_b_int, okt_b, iv_i_list, iv_i_tuple, iv_i_bool, iv_i_str, iv_i_int, okt_i, iv_s_list, iv_s_tuple, iv_s_bool, iv_s_str, iv_s_int, okt_s, iv_t_list, iv_t_tuple, iv_t_bool, iv_t_str, iv_t_int, okt_t, iv_r_list, iv_r_tuple, iv_r_bool, iv_r_str, iv_r_int, tru_b, tru_i, tru_n, tru_t, Option.map_some, Option.map_none, List.map_cons, List.map_nil, List.length_cons, List.length_nil, List.set_cons_zero, List.set_cons_succ, List.cons_append, List.nil_append, List.replicate, Nat.reduceAdd, Nat.reduceSub, Nat.reduceLeDiff, true_and, and_true, decide_eq_true_eq, reduceIte, Bool.false_eq_true, Bool.not_true, Bool.not_false, decide_true, decide_false])
set_option exponentiation.threshold 5000 in
theorem big_of {n : Nat} (h : n < 1606938044258990275541962092341162602522202993782792835301376) : n < big := Nat.lt_of_lt_of_le h (by rw [big_eq]; decide)
theorem fmod_pos {a b : Int} (h : 0 < b) : a.fmod b = a % b := Int.fmod_eq_emod_of_nonneg a (by omega)
theorem fdiv_pos {a b : Int} (h : 0 < b) : a.fdiv b = a / b := Int.fdiv_eq_ediv_of_nonneg a (by omega)
theorem seq_of_lst {m : MH} {n : Nat} {xs : List PV} (h : m[n]? = some (.lst xs)) : seq? m n = some xs := by unfold seq?; rw [h]
theorem lst_of {m : MH} {n : Nat} {xs : List PV} (h : m[n]? = some (.lst xs)) : lst? m n = some xs := by unfold lst?; rw [h]
theorem get_new {m : MH} {o : MO} : (m ++ [o])[m.length]? = some o := by simp
theorem set_new {m : MH} {o u : MO} : (m ++ [o]).set m.length u = m ++ [u] := by simp [List.set_append]
theorem get_old {m : MH} {o u : MO} {n : Nat} (h : m[n]? = some u) : (m ++ [o])[n]? = some u := by
  rw [List.getElem?_append_left (List.getElem?_eq_some_iff.mp h).1]; exact h
theorem atI_nn {α : Type} {xs : List α} {i : Int} (h : 0 ≤ i) (h2 : i < xs.length) : atI xs i = xs[i.toNat]? := by
  unfold atI ixN
  rw [if_pos h, if_pos h2]
  rfl
theorem cell_ok {m : MH} {r : Nat} {ns : List Int} {k : Int} (h : seq? m r = some (ns.map .int)) (hk : 0 ≤ k) :
    WP (f_law_cell [.ref r, .int k] m) (fun x m' => x = .int (ns.getD k.toNat 0) ∧ m' = m) NoE := by
  unfold f_law_cell b_law_cell
  walk_at "wp"
  rw [len_r h]
  walk_at "wp"
  rw [List.length_map]
  by_cases hl : k < ns.length
  · rw [if_pos hl]
    walk_at "wp"
    rw [ix_r h, atI_nn hk (by rw [List.length_map]; exact hl), List.getElem?_map, List.getElem?_eq_getElem (by omega)]
    walk_at "wp"
    rw [List.getD_eq_getElem?_getD, List.getElem?_eq_getElem (by omega)]
    rfl
  · rw [if_neg hl]
    walk_at "wp"
    rw [List.getD_eq_getElem?_getD, List.getElem?_eq_none (by omega)]
    rfl
def Dig (ds : List Int) : Prop := ∀ d ∈ ds, 0 ≤ d ∧ d < 1000
theorem Dig.snoc {ds : List Int} (h : Dig ds) (x : Int) : Dig (ds ++ [x % 1000]) := by
  intro d hd
  rcases List.mem_append.mp hd with q | q
  · exact h d q
  · rw [List.mem_singleton] at q
    subst q
    exact ⟨Int.emod_nonneg _ (by decide), Int.emod_lt_of_pos _ (by decide)⟩
theorem append_new {m : MH} {ds : List Int} {v : Int} (h : ds.length < 16777216) : appendv (.ref m.length) [.int v] (m ++ [.lst (ds.map .int)]) = some (.non, m ++ [.lst ((ds ++ [v]).map .int)]) := by
  unfold appendv
  dsimp only
  rw [lst_of get_new]
  dsimp only
  rw [if_pos (by rw [List.length_map]; exact h), set_new, List.map_append]
  rfl
theorem isLst_new {m : MH} {xs : List PV} : isLst (m ++ [.lst xs]) (.ref m.length) = true := by
  show (seq? (m ++ [.lst xs]) m.length).isSome = true
  rw [seq_of_lst get_new]
  rfl
structure Fq (a b : Int) : Prop where
  pos : 0 < b
  red : Nat.gcd a.natAbs b.natAbs = 1
theorem Fq.one (a : Int) : Fq a 1 := ⟨by decide, by simp⟩
theorem Fq.uniq {a b c d : Int} (h : Fq a b) (h2 : Fq c d) (e : a * d = c * b) : a = c ∧ b = d := by
  have hb := h.pos
  have hd := h2.pos
  have en : a.natAbs * d.natAbs = c.natAbs * b.natAbs := by rw [← Int.natAbs_mul, ← Int.natAbs_mul, e]
  have d1 : b.natAbs ∣ d.natAbs := by
    have : Nat.Coprime b.natAbs a.natAbs := by rw [Nat.coprime_comm]; exact h.red
    exact this.dvd_of_dvd_mul_left ⟨c.natAbs, by rw [en, Nat.mul_comm]⟩
  have d2 : d.natAbs ∣ b.natAbs := by
    have : Nat.Coprime d.natAbs c.natAbs := by rw [Nat.coprime_comm]; exact h2.red
    exact this.dvd_of_dvd_mul_left ⟨a.natAbs, by rw [← en, Nat.mul_comm]⟩
  have e2 : b.natAbs = d.natAbs := Nat.dvd_antisymm d1 d2
  have e3 : b = d := by omega
  subst e3
  exact ⟨Int.eq_of_mul_eq_mul_right (by omega) e, rfl⟩
structure Loft where
  name : List Nat
  x : Int
  y : Int
structure Bird where
  ring : Int
  loft : Int
  year : Int
structure Race where
  name : List Nat
  x : Int
  y : Int
  start : Int
  close : Int
  dusk : Int
  dawn : Int
def Loft.pv (l : Loft) : PV := .tup [.str l.name, .int l.x, .int l.y]
def Bird.pv (l : Bird) : PV := .tup [.int l.ring, .int l.loft, .int l.year]
def Race.pv (l : Race) : PV := .tup [.str l.name, .int l.x, .int l.y, .int l.start, .int l.close, .int l.dusk, .int l.dawn]
def Loft.At (l : Loft) : Int × Int := (l.x, l.y)
structure LoftOk (l : Loft) : Prop where
  x : -9999 ≤ l.x ∧ l.x ≤ 9999
  y : -9999 ≤ l.y ∧ l.y ≤ 9999
structure RaceOk (L : List Loft) (r : Race) : Prop where
  x : -9999 ≤ r.x ∧ r.x ≤ 9999
  y : -9999 ≤ r.y ∧ r.y ≤ 9999
  start : 0 ≤ r.start ∧ r.start ≤ 2997
  close : r.start < r.close ∧ r.close ≤ r.start + 3997
  dusk : 0 ≤ r.dusk ∧ r.dusk ≤ 1439
  dawn : 0 ≤ r.dawn ∧ r.dawn ≤ 1439
  pl : (r.x, r.y) ∉ L.map Loft.At
def clubPV (L : List Loft) (B : List Bird) (R : List Race) : PV := .tup [.tup (L.map Loft.pv), .tup (B.map Bird.pv), .tup (R.map Race.pv)]
theorem at_map {α : Type} {f : α → PV} {xs : List α} {i : Nat} {x : α} (h : xs[i]? = some x) : atI (xs.map f) ((i : Nat) : Int) = some (f x) :=
  atI_nat (by rw [List.getElem?_map, h]; rfl)
theorem atI_in {α : Type} {xs : List α} {i : Int} (h : 0 ≤ i) (h2 : i < xs.length) : ∃ x, atI xs i = some x ∧ x ∈ xs := by
  rw [atI_nn h h2]
  have : i.toNat < xs.length := by omega
  exact ⟨xs[i.toNat], List.getElem?_eq_getElem this, List.getElem_mem this⟩
theorem no_mem1 {α : Type} {p : α → Prop} : ∀ c ∈ ([] : List α), p c := fun _ h => by cases h
def clkPV (i j b e s : Int) : PV := .tup [.int i, .int j, .int b, .int e, .int s]
theorem w_callX {n : Nat} {f : FS} {as : SA} {l : SM.Loc} {m : MH} {Q : PV → MH → Prop} {E : EX} : WP (sCallX n f as l m) Q E = WP (as l m) (fun xs m1 => xs.length = n ∧ WP (f xs m1) Q E) E := by
  unfold sCallX; rw [wp_bind]; refine wp_eq fun xs m1 => ?_
  by_cases h : xs.length = n
  · rw [if_pos h]; simp [h]
  · rw [if_neg h]; simp [h, wp_bad]
theorem s_raise {cn : String} {as : SA} {l : SM.Loc} {m : MH} {D : ED} : WS (xRaise cn as l m) D = WP (as l m) (fun xs m1 => D.ex cn xs l m1) (fun c fs m => D.ex c fs l m) := by
  unfold xRaise; rw [ws_then]; refine wp_eq fun xs m1 => ?_; with_unfolding_all rfl
theorem s_tryA {cn : String} {i : Nat} {sb : SS} {l : SM.Loc} {m : MH} {D : ED} (h : WS (sb l m) { D with ex := fun c fs l' m' => ∃ y, fs = [y] ∧ c = cn ∧ i < l'.length ∧ D.rt y m' }) : WS (xTryA cn i sb l m) D := by
  unfold xTryA
  unfold WS at h ⊢
  cases hs : sb l m with
  | nx l' m' => rw [hs] at h; exact h
  | rt y m' => rw [hs] at h; exact h
  | bk l' m' => rw [hs] at h; exact h
  | ct l' m' => rw [hs] at h; exact h
  | bad => rw [hs] at h; exact h
  | ex c fs l' m' =>
    rw [hs] at h
    obtain ⟨y, rfl, hc, hi, hq⟩ := h
    dsimp only
    rw [if_pos ⟨hc, hi⟩]
    exact hq
theorem w_tis {T : String} {a : SE} {l : SM.Loc} {m : MH} {Q : PV → MH → Prop} {E : EX} : WP (sTis T a l m) Q E = WP (a l m) (fun x m1 => okTy m1 x = true ∧ Q (.bl (decide (tyName x = T))) m1) E := by
  unfold sTis; rw [wp_bind]; refine wp_eq fun x m1 => ?_
  by_cases h : okTy m1 x = true
  · rw [if_pos h]; simp [h, wp_ok]
  · rw [if_neg h]; simp [h, wp_bad]
theorem s_for2W {l : SM.Loc} {m : MH} {D : ED} {a b : SE} {g : STg} {body : SS} (h : WP (a l m) (fun x m1 => WP (b l m1) (fun y m2 => ∃ i j : Int, x = .int i ∧ y = .int j ∧ (-4611686018427387904 ≤ i ∧ i < 4611686018427387904 ∧ -4611686018427387904 ≤ j ∧ j < 4611686018427387904) ∧ ∃ I : Nat → SM.Loc → MH → Prop, I 0 l m2 ∧
    (∀ k l m, k < (j - i).toNat → I k l m → WG (g (.int (i + (k : Nat))) l m) (fun l1 m1 => WS (body l1 m1) ⟨I (k + 1), D.rt, D.nx, I (k + 1), D.ex⟩)) ∧ (∀ l m, I (j - i).toNat l m → D.nx l m)) NoE) NoE) : WS (xFor (iRng2S a b) g body l m) D := by
  obtain ⟨x, m1, e, h⟩ := h.run
  obtain ⟨y, m2, e2, i, j, rfl, rfl, hj, I, h3, h4, h5⟩ := h.run
  exact s_for2 (j - i).toNat rfl e e2 hj I h3 h4 h5
structure Clk where
  race : Nat
  loft : Nat
  b : Int
  e : Int
  s : Int
def Clk.pv (c : Clk) : PV := clkPV (c.race : Nat) (c.loft : Nat) c.b c.e c.s
structure ClkOk (L : List Loft) (R : List Race) (c : Clk) : Prop where
  race : c.race < R.length
  loft : c.loft < L.length
  b0 : 0 ≤ c.b
  b1 : c.b < c.e
  e : c.e ≤ 9999
  s0 : c.b < c.s
  s1 : c.s ≤ 9999
  b2 : c.b ≤ 2997
theorem w_lcT {b t e : _} {l : SM.Loc} {m : MH} {g : STg} {vs : List Nat} {Q : PV → MH → Prop} {E : EX} (h : WP (b l m) (fun x m1 => ∃ xs, x = .tup xs ∧ ∃ I : Nat → List PV → MH → Prop, I 0 [] (m1 ++ [.lst []]) ∧
    (∀ i x acc m, xs[i]? = some x → m[m1.length]? = some (.lst acc) → I i acc m → WG (g x (wipeP l vs) m) (fun l1 m' => WP (t l1 m') (fun b m2 => if b = true then WP (e l1 m2) (fun y m3 => m3[m1.length]? = some (.lst acc) ∧ acc.length < 16777216 ∧ I (i + 1) (acc ++ [y]) (m3.set m1.length (.lst (acc ++ [y])))) NoE else m2[m1.length]? = some (.lst acc) ∧ I (i + 1) acc m2) NoE)) ∧
    (∀ acc m, m[m1.length]? = some (.lst acc) → I xs.length acc m → Q (.ref m1.length) m)) NoE) : WP (sLc (iSeq b) g t e vs l m) Q E := by
  obtain ⟨x, m1, ee, xs, rfl, I, h3, h4, h5⟩ := h.run
  exact w_lc (si_seqT ee) I h3 (fun i x acc m hx hl hi => ⟨trivial, h4 i x acc m hx hl hi⟩) (fun acc m hl hi => ⟨trivial, h5 acc m hl hi⟩)
structure Gr (m m' : MH) : Prop where
  len : m.length ≤ m'.length
  get : ∀ (n : Nat) (o : MO), m[n]? = some o → m'[n]? = some o
theorem Gr.refl {m : MH} : Gr m m := ⟨Nat.le_refl _, fun _ _ h => h⟩
theorem Gr.trans {m m1 m2 : MH} (h : Gr m m1) (h2 : Gr m1 m2) : Gr m m2 := ⟨Nat.le_trans h.len h2.len, fun n o e => h2.get n o (h.get n o e)⟩
theorem Gr.push {m m1 : MH} (h : Gr m m1) (o : MO) : Gr m (m1 ++ [o]) := ⟨by have := h.len; simp; omega, fun n u e => get_old (h.get n u e)⟩
theorem Gr.set {n : Nat} {m m1 : MH} {o : MO} (h : Gr m m1) (hn : m.length ≤ n) : Gr m (m1.set n o) := ⟨by simpa using h.len, fun k u q => by
  have hk := (List.getElem?_eq_some_iff.mp q).1
  rw [List.getElem?_set_ne (by omega)]; exact h.get k u q⟩
theorem Gr.new {m m' : MH} {o : MO} (h : Gr (m ++ [o]) m') : m'[m.length]? = some o := h.get _ _ get_new
theorem Gr.one {m : MH} {o : MO} : Gr m (m ++ [o]) := Gr.refl.push o
theorem dget_r {m : MH} {n : Nat} {kvs : List (List Int × PV)} {a b : Int} {x : PV} (h : m[n]? = some (.dct kvs)) (hg : SM.getD kvs [a, b] = some x) : dgetv (.ref n) (.tup [.int a, .int b]) m = some (x, m) := by
  unfold dgetv; dsimp only; rw [h]; dsimp only; rw [hg]; rfl
theorem _root_.SM.WG.mono {o : Option (SM.Loc × MH)} {Q Q' : SM.Loc → MH → Prop} (h : WG o Q) (i : ∀ l m, Q l m → Q' l m) : WG o Q' := by
  unfold WG at h ⊢
  cases o with
  | none => exact h
  | some p => exact i _ _ h
theorem digits_ok {m : MH} {c k : Int} (hk : 0 ≤ k) (hk2 : k ≤ 5000) :
    WP (f_law_digits [.int c, .int k, .int 20] m) (fun x m' => ∃ ds, x = .ref m.length ∧ m' = m ++ [.lst (ds.map .int)] ∧ Dig ds ∧ ds.length ≤ 20) NoE := by
  unfold f_law_digits b_law_digits
  walk_at "w1"
  walk_at "sq"
  refine s_cut (mid := fun l m' => ∃ c, 0 ≤ c ∧ l = [some (.int c), some (.int k), some (.int 20), some (.ref m.length), none, none] ∧ m' = m ++ [.lst []]) ?_ ?_
  · walk_at "w1"
    by_cases h0 : c < 0
    · rw [if_pos h0]
      walk_at "w1"
      exact ⟨-1 - c, by omega, rfl⟩
    · rw [if_neg h0]
      exact ⟨c, by omega, rfl⟩
  rintro _ _ ⟨c, hc, rfl, rfl⟩
  rw [s_seq]
  walk_at "w1"
  rw [if_pos (by decide)]
  simp only [Int.reduceToNat, Int.reducePow]
  by_cases hbig : 1000000000000000000 ≤ c
  · rw [if_pos hbig]
    refine s_for1 (j := 60) 60 rfl rfl (by decide) (by decide) (fun j l m' => ∃ ds' c' x4, l = [some (.int c'), some (.int k), some (.int 20), some (.ref m.length), x4, none] ∧ m' = m ++ [.lst (ds'.map .int)] ∧ Dig ds' ∧ ds'.length ≤ 20 ∧ 0 ≤ c') ⟨[], c, none, rfl, rfl, (fun _ h => by cases h), by simp, hc⟩ ?_ ?_
    · rintro j l m' hj ⟨ds', c', x4, rfl, rfl, hd', hl', hc'⟩
      unfold law_digits_l1
      walk_at "w1"
      by_cases h0 : 0 < c'
      · rw [if_pos h0]
        rw [len_r (seq_of_lst get_new), List.length_map]
        walk_at "w1"
        by_cases h1 : ((ds'.length : Nat) : Int) < 20
        · rw [if_pos h1]
          walk_at "sq"
          refine ⟨isLst_new, ?_⟩
          rw [if_pos (by decide), fmod_pos (by decide), append_new (by omega)]
          walk_at "wp"
          rw [if_pos ⟨by decide, big_of (by decide)⟩, fdiv_pos (by decide)]
          exact ⟨ds' ++ [c' % 1000], c' / 1000, _, rfl, rfl, hd'.snoc c', by simp; omega, Int.ediv_nonneg hc' (by decide)⟩
        · rw [if_neg h1]
          exact ⟨ds', c', _, rfl, rfl, hd', by omega, hc'⟩
      · rw [if_neg h0]
        exact ⟨ds', c', _, rfl, rfl, hd', by omega, hc'⟩
    · rintro l m' ⟨ds', c', x4, rfl, rfl, hd', hl', hc'⟩
      walk_at "w1"
      exact ⟨ds', rfl, hd', hl'⟩
  · rw [if_neg hbig]
    have hlt : c < 1000000000000000000 := by omega
    walk_at "sq"
    rw [if_pos (.inl (.inl (by omega))), if_pos (.inl (.inl (by omega))), if_pos (by decide), fmod_pos (by decide)]
    refine s_for1 (j := 20) 20 rfl rfl (by decide) (by decide) (fun j l m' => ∃ ds' sd x4, l = [some (.int c), some (.int k), some (.int 20), some (.ref m.length), x4, some (.int sd)] ∧ m' = m ++ [.lst (ds'.map .int)] ∧ Dig ds' ∧ ds'.length ≤ j ∧ 0 ≤ sd ∧ sd < 2147483647) ⟨[], _, none, rfl, rfl, (fun _ h => by cases h), by simp, Int.emod_nonneg _ (by decide), Int.emod_lt_of_pos _ (by decide)⟩ ?_ ?_
    · rintro j l m' hj ⟨ds', sd, x4, rfl, rfl, hd', hl', hs1, hs2⟩
      unfold law_digits_l2
      walk_at "w1"
      walk_at "sq"
      rw [if_pos (.inl (.inl (by omega))), if_pos (.inl (.inl (by decide))), if_pos (by decide)]
      walk_at "w1"
      refine ⟨isLst_new, ?_⟩
      rw [if_pos ⟨by decide, big_of (by decide)⟩, if_pos (by decide), fmod_pos (by decide), fmod_pos (by decide), append_new (by omega)]
      walk_at "w1"
      exact ⟨_, _, _, rfl, rfl, hd'.snoc _, by simp; omega, Int.emod_nonneg _ (by decide), Int.emod_lt_of_pos _ (by decide)⟩
    · rintro l m' ⟨ds', sd, x4, rfl, rfl, hd', hl', _⟩
      walk_at "w1"
      exact ⟨ds', rfl, hd', by omega⟩
structure Pd (ds : List Int) : Prop where
  dg : Dig ds
  lo : 20 ≤ ds.length
theorem Pd.at {ds : List Int} (h : Pd ds) {i : Int} (h0 : 0 ≤ i) (h1 : i < 20) : ∃ d, atI (ds.map PV.int) i = some (.int d) ∧ 0 ≤ d ∧ d < 1000 := by
  have hl := h.lo
  obtain ⟨i, rfl⟩ := Int.eq_ofNat_of_zero_le h0
  have e : ds[i]? = some (ds[i]'(by omega)) := List.getElem?_eq_getElem (by omega)
  exact ⟨_, at_map e, h.dg _ (List.mem_of_getElem? e)⟩
theorem padded_ok {m : MH} {c k : Int} (hk : 0 ≤ k) (hk2 : k ≤ 5000) :
    WP (f_law_padded [.int c, .int k] m) (fun x m' => ∃ ds, x = .ref m.length ∧ m' = m ++ [.lst (ds.map .int)] ∧ Pd ds) NoE := by
  unfold f_law_padded b_law_padded
  walk_at "w1"
  rw [s_seq]
  walk_at "w1"
  refine (digits_ok hk hk2).mono ?_
  rintro _ _ ⟨ds, rfl, rfl, hd, hl⟩
  walk_at "w1"
  rw [s_seq]
  refine s_for1 (j := 20) 20 rfl rfl (by decide) (by decide) (fun i l m' => ∃ ds x3, l = [some (.int c), some (.int k), some (.ref m.length), x3] ∧ m' = m ++ [.lst (ds.map .int)] ∧ Dig ds ∧ i ≤ ds.length ∧ ds.length ≤ 20 + i) ⟨ds, _, rfl, rfl, hd, Nat.zero_le _, by omega⟩ ?_ ?_
  · rintro i l m' hi ⟨ds, x3, rfl, rfl, hd, h1, h2⟩
    unfold law_padded_l1
    walk_at "w1"
    refine ⟨isLst_new, ?_⟩
    rw [append_new (by omega)]
    walk_at "w1"
    refine ⟨ds ++ [((i : Nat) : Int)], _, rfl, rfl, fun d hm => (List.mem_append.mp hm).elim (hd d) fun e => by rw [List.mem_singleton.mp e]; omega, by simp; omega, by simp; omega⟩
  · rintro l m' ⟨ds, x3, rfl, rfl, hd, h1, h2⟩
    walk_at "w1"
    exact ⟨ds, rfl, hd, h1⟩
theorem seq_lt {m : MH} {n : Nat} {xs : List PV} (h : seq? m n = some xs) : n < m.length := by
  unfold seq? at h
  cases e : m[n]? with
  | none => rw [e] at h; cases h
  | some o => exact (List.getElem?_eq_some_iff.mp e).1
structure ClubG (L : List Loft) (B : List Bird) (R : List Race) : Prop where
  l1 : 1 ≤ L.length
  l2 : L.length ≤ 3
  b1 : 1 ≤ B.length
  b2 : B.length ≤ 5
  r1 : 1 ≤ R.length
  r2 : R.length ≤ 2
  lx : ∀ l ∈ L, LoftOk l
  bx : ∀ b ∈ B, 0 ≤ b.loft ∧ b.loft < L.length
  br : ∀ b ∈ B, 0 ≤ b.ring ∧ b.ring ≤ 999
  bn : (B.map Bird.ring).Nodup
  rx : ∀ r ∈ R, RaceOk L r
  rs : ∀ r ∈ R, 300 ≤ r.start ∧ r.close ≤ 3000 ∧ r.start ≤ 499 ∧ Cps r.name
  nm : ∀ l ∈ L, Cps l.name
  ln : ∀ (j : Nat) l, L[j]? = some l → l.name = [97 + j]
  rn : ∀ (j : Nat) r, R[j]? = some r → r.name = [112 + j]
  yr : ∀ b ∈ B, 1 ≤ b.ring ∧ 0 ≤ b.year ∧ b.year ≤ 99
  rg : ∀ b ∈ B, b.ring ≤ 45
theorem pick4 {m : MH} {n : Nat} {a b c d v : Int} (h : m[n]? = some (.lst [.int a, .int b, .int c, .int d])) (h0 : 0 ≤ v) (h1 : v < 4) : ∃ w, ixv (.ref n) (.int v) m = some (.int w, m) ∧ (w = a ∨ w = b ∨ w = c ∨ w = d) := by
  rcases (by omega : v = 0 ∨ v = 1 ∨ v = 2 ∨ v = 3) with rfl | rfl | rfl | rfl
  · exact ⟨a, by rw [ix_r (seq_of_lst h), at0]; rfl, .inl rfl⟩
  · exact ⟨b, by rw [ix_r (seq_of_lst h), at1]; rfl, .inr (.inl rfl)⟩
  · exact ⟨c, by rw [ix_r (seq_of_lst h), at2]; rfl, .inr (.inr (.inl rfl))⟩
  · exact ⟨d, by rw [ix_r (seq_of_lst h), at3]; rfl, .inr (.inr (.inr rfl))⟩
theorem pick3 {m : MH} {n : Nat} {a c e v : Int} (h : m[n]? = some (.lst [.int a, .int c, .int e])) (h0 : 0 ≤ v) (h1 : v < 3) : ∃ w, ixv (.ref n) (.int v) m = some (.int w, m) ∧ (w = a ∨ w = c ∨ w = e) := by
  rcases (by omega : v = 0 ∨ v = 1 ∨ v = 2) with rfl | rfl | rfl
  · exact ⟨a, by rw [ix_r (seq_of_lst h), at0]; rfl, .inl rfl⟩
  · exact ⟨c, by rw [ix_r (seq_of_lst h), at1]; rfl, .inr (.inl rfl)⟩
  · exact ⟨e, by rw [ix_r (seq_of_lst h), at2]; rfl, .inr (.inr rfl)⟩
theorem pix {m : MH} {n : Nat} {ds : List Int} {i d : Int} (h : m[n]? = some (.lst (ds.map .int))) (e : atI (ds.map PV.int) i = some (.int d)) : ixv (.ref n) (.int i) m = some (.int d, m) := by rw [ix_r (seq_of_lst h), e]; rfl
theorem at_nm {a i : Nat} {x : List Nat} (h : x = [a, a + 1, a + 2]) (hi : i < 3) : atI x (i : Nat) = some (a + i) := by
  subst h
  rcases (by omega : i = 0 ∨ i = 1 ∨ i = 2) with rfl | rfl | rfl <;> rfl
theorem at_nm2 {a i : Nat} {x : List Nat} (h : x = [a, a + 1]) (hi : i < 2) : atI x (i : Nat) = some (a + i) := by
  subst h
  rcases (by omega : i = 0 ∨ i = 1) with rfl | rfl <;> rfl
theorem nm_snoc {α : Type} {f : α → List Nat} {a : Nat} {xs : List α} {y : α} (h : ∀ (j : Nat) z, xs[j]? = some z → f z = [a + j]) (hy : f y = [a + xs.length]) : ∀ (j : Nat) z, (xs ++ [y])[j]? = some z → f z = [a + j] := by
  intro j z e
  by_cases c : j < xs.length
  · rw [List.getElem?_append_left c] at e
    exact h j z e
  · have hl := (List.getElem?_eq_some_iff.mp e).1
    have hj : j = xs.length := by simp at hl; omega
    subst hj
    rw [List.getElem?_append_right (Nat.le_refl _), Nat.sub_self] at e
    cases e
    exact hy
theorem club_ok {m : MH} {ns : List Int} (h : seq? m 0 = some (ns.map .int)) :
    WP (f_law_club [.ref 0] m) (fun x m' => ∃ L B R, x = clubPV L B R ∧ ClubG L B R ∧ Gr m m') NoE := by
  have hm := seq_lt h
  unfold f_law_club b_law_club
  walk_at "w1"
  rw [s_seq]
  walk_at "w1"
  refine (cell_ok h (by decide)).mono ?_
  rintro _ m ⟨rfl, rfl⟩
  generalize ns.getD (0 : Int).toNat 0 = c0
  walk_at "w1"
  refine (padded_ok (by decide) (by decide)).mono ?_
  rintro _ _ ⟨ds, rfl, rfl, hp⟩
  walk_at "w1"
  have PD0 : (m ++ [MO.lst (ds.map PV.int)])[m.length]? = some (MO.lst (ds.map PV.int)) := get_new
  have G0 : Gr m (m ++ [MO.lst (ds.map PV.int)]) := Gr.one
  have hdn : m.length < (m ++ [MO.lst (ds.map PV.int)]).length := by simp
  have hmd : m.length ≤ m.length := Nat.le_refl _
  generalize m ++ [MO.lst (ds.map PV.int)] = m1 at *
  obtain ⟨dn, edn⟩ : ∃ dn, dn = m.length := ⟨_, rfl⟩
  rw [← edn] at PD0 hdn ⊢
  obtain ⟨d0, e0, a0, b0⟩ := hp.at (i := 0) (by decide) (by decide)
  obtain ⟨d7, e7, a7, b7⟩ := hp.at (i := 7) (by decide) (by decide)
  obtain ⟨d13, e13, a13, b13⟩ := hp.at (i := 13) (by decide) (by decide)
  obtain ⟨d18, e18, a18, b18⟩ := hp.at (i := 18) (by decide) (by decide)
  obtain ⟨d19, e19, a19, b19⟩ := hp.at (i := 19) (by decide) (by decide)
  rw [s_seq]
  walk_at "w1"
  have PD1 := get_old (o := .lst []) PD0
  have PL1 := get_new (m := m1) (o := .lst [])
  have G1 := G0.push (.lst [])
  have hlf : m1.length < (m1 ++ [MO.lst []]).length := by simp
  generalize m1 ++ [MO.lst []] = m2 at *
  generalize m1.length = lf at *
  rw [s_seq]
  refine s_for1W ?_
  try simp -dsimp only [pix PD1 e0, at0, at1, at2, at3, at4, at5, at6, wp_fn, s_nil, s_brk, s_cnt, s_expr, s_ret, s_retN, s_if, s_asn, s_par, s_asg, g_nm, g_nil, g_cons, g_tupT, g_subW, w_v0, w_vS, w_c, w_op, w_un, w_anil, w_acons, w_tup, w_lst, w_call, w_callU, w_isi, w_meth, w_tru, w_bool, w_notS, w_andS, w_orS, w_ifx, w_andV, w_orV, w_notV, w_chain, wp_ok, wp_bad, wp_some, wp_none, wp_liftif, wp_if, asB_b, wp_noex, add_ii, sub_ii, mul_ii, fdiv_ii, mod_ii, pow_ii, neg_i, cmp_ii, lt_ii, le_ii, gt_ii, ge_ii, le_cc, muls_ii, muls_si, ins_cs, iadd_ii, isub_ii, w_onone, w_osome, w_sl, sl_s, sl_t, s_aug, eq_ss, len_s, ix_s, add_ss, str_s, tuple_t, list_t, is_n, not_n, non_n, non_i, non_b, non_s, non_t, non_r, abs_i, max_ii, min_ii, int_i, int_b, gcd_ii, len_t, ix_t, eq_v, ne_v, eq_ii, eq_bb, eq_nn, eq_in, eq_ni, iv_n_list, iv_n_tuple, iv_n_bool, iv_n_str, iv_n_int, okt_n, iv_b_list, iv_b_tuple, iv_b_bool, iv_b_str, iv_b_int, okt_b, iv_i_list, iv_i_tuple, iv_i_bool, iv_i_str, iv_i_int, okt_i, iv_s_list, iv_s_tuple, iv_s_bool, iv_s_str, iv_s_int, okt_s, iv_t_list, iv_t_tuple, iv_t_bool, iv_t_str, iv_t_int, okt_t, iv_r_list, iv_r_tuple, iv_r_bool, iv_r_str, iv_r_int, tru_b, tru_i, tru_n, tru_t, Option.map_some, Option.map_none, List.map_cons, List.map_nil, List.length_cons, List.length_nil, List.set_cons_zero, List.set_cons_succ, List.cons_append, List.nil_append, List.replicate, Nat.reduceAdd, Nat.reduceSub, Nat.reduceLeDiff, true_and, and_true, decide_eq_true_eq, reduceIte, Bool.false_eq_true, Bool.not_true, Bool.not_false, decide_true, decide_false]
  (repeat first | rw [if_pos (by decide)] | rw [fmod_pos (by omega)])
  walk_at "w0"
  refine ⟨_, rfl, by omega, by omega, fun i l m' => ∃ (L : List Loft) (x3 : Option PV), l = [some (.ref 0), some (.ref dn), some (.ref lf), x3, none, none, none, none, none] ∧ m'[lf]? = some (MO.lst (L.map Loft.pv)) ∧ (∀ l ∈ L, LoftOk l ∧ l.x ≤ 3 ∧ Cps l.name) ∧ (∀ (j : Nat) z, L[j]? = some z → z.name = [97 + j]) ∧ L.length = i ∧ m'[dn]? = some (MO.lst (ds.map PV.int)) ∧ Gr m m' ∧ lf < m'.length, ⟨[], _, rfl, PL1, no_mem1, fun j z e => by simp at e, rfl, PD1, G1, hlf⟩, ?_, ?_⟩
  · clear PD0 PD1 PL1 G0 G1 hlf
    rintro i l m' hi ⟨L, x3, rfl, P, hL, hLn, hLl, PD, G, hlf⟩
    obtain ⟨u, eu, au, bu⟩ := hp.at (i := 1 + (i : Nat)) (by omega) (by omega)
    obtain ⟨v, ev, av, bv⟩ := hp.at (i := 4 + (i : Nat)) (by omega) (by omega)
    have ec := at_nm (a := 97) (i := i) (x := [97, 98, 99]) rfl (by omega)
    obtain ⟨c, hcm⟩ : ∃ c, c = 97 + i := ⟨_, rfl⟩
    rw [← hcm] at ec
    unfold law_club_l1
    try simp -dsimp only [ec, pix PD eu, pix PD ev, at0, at1, at2, at3, at4, at5, at6, wp_fn, s_nil, s_brk, s_cnt, s_expr, s_ret, s_retN, s_if, s_asn, s_par, s_asg, g_nm, g_nil, g_cons, g_tupT, g_subW, w_v0, w_vS, w_c, w_op, w_un, w_anil, w_acons, w_tup, w_lst, w_call, w_callU, w_isi, w_meth, w_tru, w_bool, w_notS, w_andS, w_orS, w_ifx, w_andV, w_orV, w_notV, w_chain, wp_ok, wp_bad, wp_some, wp_none, wp_liftif, wp_if, asB_b, wp_noex, add_ii, sub_ii, mul_ii, fdiv_ii, mod_ii, pow_ii, neg_i, cmp_ii, lt_ii, le_ii, gt_ii, ge_ii, le_cc, muls_ii, muls_si, ins_cs, iadd_ii, isub_ii, w_onone, w_osome, w_sl, sl_s, sl_t, s_aug, eq_ss, len_s, ix_s, add_ss, str_s, tuple_t, list_t, is_n, not_n, non_n, non_i, non_b, non_s, non_t, non_r, abs_i, max_ii, min_ii, int_i, int_b, gcd_ii, len_t, ix_t, eq_v, ne_v, eq_ii, eq_bb, eq_nn, eq_in, eq_ni, iv_n_list, iv_n_tuple, iv_n_bool, iv_n_str, iv_n_int, okt_n, iv_b_list, iv_b_tuple, iv_b_bool, iv_b_str, iv_b_int, okt_b, iv_i_list, iv_i_tuple, iv_i_bool, iv_i_str, iv_i_int, okt_i, iv_s_list, iv_s_tuple, iv_s_bool, iv_s_str, iv_s_int, okt_s, iv_t_list, iv_t_tuple, iv_t_bool, iv_t_str, iv_t_int, okt_t, iv_r_list, iv_r_tuple, iv_r_bool, iv_r_str, iv_r_int, tru_b, tru_i, tru_n, tru_t, Option.map_some, Option.map_none, List.map_cons, List.map_nil, List.length_cons, List.length_nil, List.set_cons_zero, List.set_cons_succ, List.cons_append, List.nil_append, List.replicate, Nat.reduceAdd, Nat.reduceSub, Nat.reduceLeDiff, true_and, and_true, decide_eq_true_eq, reduceIte, Bool.false_eq_true, Bool.not_true, Bool.not_false, decide_true, decide_false]
    refine ⟨isLst_r P, ?_⟩
    (repeat first | rw [if_pos (by decide)] | rw [fmod_pos (by omega)])
    walk_at "w0"
    rw [append_r P (by rw [List.length_map]; omega)]
    walk_at "w0"
    refine ⟨L ++ [⟨[c], u % 4, v % 3⟩], _, rfl, (get_set_eq P).trans ?_, fun z hz => (List.mem_append.mp hz).elim (hL z) fun e => ?_, nm_snoc hLn (by show [c] = _; rw [hcm, hLl]), by simp [hLl], by rw [List.getElem?_set_ne (by omega)]; exact PD, G.set (by omega), by simpa using hlf⟩
    · rw [List.map_append]; rfl
    · rw [List.mem_singleton.mp e]
      exact ⟨⟨⟨by show -9999 ≤ u % 4; omega, by show u % 4 ≤ 9999; omega⟩, ⟨by show -9999 ≤ v % 3; omega, by show v % 3 ≤ 9999; omega⟩⟩, by show u % 4 ≤ 3; omega, fun y hy => by
        rw [List.mem_singleton.mp hy]
        omega⟩
  clear PD0 PD1 PL1 G0 G1 hlf
  rintro l m3 ⟨L, x3, rfl, PL, hL, hLn, hLl, PD, G, hlf⟩
  have hL1 : 1 ≤ L.length := by omega
  have hL2 : L.length ≤ 3 := by omega
  walk_at "w1"
  rw [s_seq]
  walk_at "w1"
  have PD1 := get_old (o := .lst []) PD
  have PL1 := get_old (o := .lst []) PL
  have PB1 := get_new (m := m3) (o := .lst [])
  have G1 := G.push (.lst [])
  have hbf : m3.length < (m3 ++ [MO.lst []]).length := by simp
  have hne : lf < m3.length ∧ dn < m3.length := by have := G.len; omega
  generalize m3 ++ [MO.lst []] = m4 at *
  generalize m3.length = bf at *
  rw [s_seq]
  refine s_for1W ?_
  try simp -dsimp only [pix PD1 e7, at0, at1, at2, at3, at4, at5, at6, wp_fn, s_nil, s_brk, s_cnt, s_expr, s_ret, s_retN, s_if, s_asn, s_par, s_asg, g_nm, g_nil, g_cons, g_tupT, g_subW, w_v0, w_vS, w_c, w_op, w_un, w_anil, w_acons, w_tup, w_lst, w_call, w_callU, w_isi, w_meth, w_tru, w_bool, w_notS, w_andS, w_orS, w_ifx, w_andV, w_orV, w_notV, w_chain, wp_ok, wp_bad, wp_some, wp_none, wp_liftif, wp_if, asB_b, wp_noex, add_ii, sub_ii, mul_ii, fdiv_ii, mod_ii, pow_ii, neg_i, cmp_ii, lt_ii, le_ii, gt_ii, ge_ii, le_cc, muls_ii, muls_si, ins_cs, iadd_ii, isub_ii, w_onone, w_osome, w_sl, sl_s, sl_t, s_aug, eq_ss, len_s, ix_s, add_ss, str_s, tuple_t, list_t, is_n, not_n, non_n, non_i, non_b, non_s, non_t, non_r, abs_i, max_ii, min_ii, int_i, int_b, gcd_ii, len_t, ix_t, eq_v, ne_v, eq_ii, eq_bb, eq_nn, eq_in, eq_ni, iv_n_list, iv_n_tuple, iv_n_bool, iv_n_str, iv_n_int, okt_n, iv_b_list, iv_b_tuple, iv_b_bool, iv_b_str, iv_b_int, okt_b, iv_i_list, iv_i_tuple, iv_i_bool, iv_i_str, iv_i_int, okt_i, iv_s_list, iv_s_tuple, iv_s_bool, iv_s_str, iv_s_int, okt_s, iv_t_list, iv_t_tuple, iv_t_bool, iv_t_str, iv_t_int, okt_t, iv_r_list, iv_r_tuple, iv_r_bool, iv_r_str, iv_r_int, tru_b, tru_i, tru_n, tru_t, Option.map_some, Option.map_none, List.map_cons, List.map_nil, List.length_cons, List.length_nil, List.set_cons_zero, List.set_cons_succ, List.cons_append, List.nil_append, List.replicate, Nat.reduceAdd, Nat.reduceSub, Nat.reduceLeDiff, true_and, and_true, decide_eq_true_eq, reduceIte, Bool.false_eq_true, Bool.not_true, Bool.not_false, decide_true, decide_false]
  (repeat first | rw [if_pos (by decide)] | rw [fmod_pos (by omega)])
  walk_at "w0"
  refine ⟨_, rfl, by omega, by omega, fun i l m' => ∃ (B : List Bird) (x3 : Option PV), l = [some (.ref 0), some (.ref dn), some (.ref lf), x3, some (.ref bf), none, none, none, none] ∧ m'[bf]? = some (MO.lst (B.map Bird.pv)) ∧ (∀ (j : Nat) b, B[j]? = some b → (9 * (j : Int) + 1 ≤ b.ring ∧ b.ring ≤ 9 * j + 9) ∧ (0 ≤ b.loft ∧ b.loft < L.length) ∧ b.year = 20 + (j : Int)) ∧ B.length = i ∧ m'[dn]? = some (MO.lst (ds.map PV.int)) ∧ m'[lf]? = some (MO.lst (L.map Loft.pv)) ∧ Gr m m' ∧ bf < m'.length, ⟨[], _, rfl, PB1, fun j b e => by simp at e, rfl, PD1, PL1, G1, hbf⟩, ?_, ?_⟩
  · clear PD PL PD1 PL1 PB1 G G1 hbf
    rintro i l m' hi ⟨B, x3, rfl, P, hB, hBl, PD, PL, G, hbf⟩
    obtain ⟨u, eu, au, bu⟩ := hp.at (i := 8 + (i : Nat)) (by omega) (by omega)
    unfold law_club_l2
    try simp -dsimp only [pix PD eu, at0, at1, at2, at3, at4, at5, at6, wp_fn, s_nil, s_brk, s_cnt, s_expr, s_ret, s_retN, s_if, s_asn, s_par, s_asg, g_nm, g_nil, g_cons, g_tupT, g_subW, w_v0, w_vS, w_c, w_op, w_un, w_anil, w_acons, w_tup, w_lst, w_call, w_callU, w_isi, w_meth, w_tru, w_bool, w_notS, w_andS, w_orS, w_ifx, w_andV, w_orV, w_notV, w_chain, wp_ok, wp_bad, wp_some, wp_none, wp_liftif, wp_if, asB_b, wp_noex, add_ii, sub_ii, mul_ii, fdiv_ii, mod_ii, pow_ii, neg_i, cmp_ii, lt_ii, le_ii, gt_ii, ge_ii, le_cc, muls_ii, muls_si, ins_cs, iadd_ii, isub_ii, w_onone, w_osome, w_sl, sl_s, sl_t, s_aug, eq_ss, len_s, ix_s, add_ss, str_s, tuple_t, list_t, is_n, not_n, non_n, non_i, non_b, non_s, non_t, non_r, abs_i, max_ii, min_ii, int_i, int_b, gcd_ii, len_t, ix_t, eq_v, ne_v, eq_ii, eq_bb, eq_nn, eq_in, eq_ni, iv_n_list, iv_n_tuple, iv_n_bool, iv_n_str, iv_n_int, okt_n, iv_b_list, iv_b_tuple, iv_b_bool, iv_b_str, iv_b_int, okt_b, iv_i_list, iv_i_tuple, iv_i_bool, iv_i_str, iv_i_int, okt_i, iv_s_list, iv_s_tuple, iv_s_bool, iv_s_str, iv_s_int, okt_s, iv_t_list, iv_t_tuple, iv_t_bool, iv_t_str, iv_t_int, okt_t, iv_r_list, iv_r_tuple, iv_r_bool, iv_r_str, iv_r_int, tru_b, tru_i, tru_n, tru_t, Option.map_some, Option.map_none, List.map_cons, List.map_nil, List.length_cons, List.length_nil, List.set_cons_zero, List.set_cons_succ, List.cons_append, List.nil_append, List.replicate, Nat.reduceAdd, Nat.reduceSub, Nat.reduceLeDiff, true_and, and_true, decide_eq_true_eq, reduceIte, Bool.false_eq_true, Bool.not_true, Bool.not_false, decide_true, decide_false]
    refine ⟨isLst_r P, ?_⟩
    rw [len_r (seq_of_lst PL), List.length_map]
    rw [if_pos (.inl (.inl (by omega))), if_pos (by decide), fmod_pos (by decide)]
    walk_at "w0"
    rw [if_pos ⟨by decide, big_of (by decide)⟩, fdiv_pos (by decide)]
    walk_at "w0"
    rw [if_pos (by omega), fmod_pos (by omega)]
    walk_at "w0"
    rw [append_r P (by rw [List.length_map]; omega)]
    walk_at "w0"
    refine ⟨B ++ [⟨9 * (i : Nat) + 1 + u % 9, u / 9 % (L.length : Nat), 20 + (i : Nat)⟩], _, rfl, (get_set_eq P).trans ?_, fun j b e => ?_, by simp [hBl], by rw [List.getElem?_set_ne (by omega)]; exact PD, by rw [List.getElem?_set_ne (by omega)]; exact PL, G.set (by have := G.len; omega), by simpa using hbf⟩
    · rw [List.map_append]; rfl
    · by_cases hj : j < B.length
      · rw [List.getElem?_append_left hj] at e
        exact hB j b e
      · rw [List.getElem?_append_right (by omega)] at e
        have hj2 : j = B.length := by
          have := (List.getElem?_eq_some_iff.mp e).1
          simp at this; omega
        subst hj2
        simp at e
        subst e
        have m1 := Int.emod_nonneg (u / 9) (show ((L.length : Nat) : Int) ≠ 0 by omega)
        have m2 := Int.emod_lt_of_pos (u / 9) (show (0 : Int) < (L.length : Nat) by omega)
        refine ⟨⟨?_, ?_⟩, ⟨m1, m2⟩, by show 20 + ((i : Nat) : Int) = 20 + ((B.length : Nat) : Int); omega⟩
        · show 9 * ((B.length : Nat) : Int) + 1 ≤ 9 * (i : Nat) + 1 + u % 9; omega
        · show 9 * ((i : Nat) : Int) + 1 + u % 9 ≤ 9 * (B.length : Nat) + 9; omega
  clear PD PL PD1 PL1 PB1 G G1 hbf
  rintro l m5 ⟨B, x3, rfl, PB, hB, hBl, PD, PL, G, hbf⟩
  have hB1 : 1 ≤ B.length := by omega
  have hB2 : B.length ≤ 5 := by omega
  walk_at "w1"
  rw [s_seq]
  walk_at "w1"
  have PD1 := get_old (o := .lst []) PD
  have PL1 := get_old (o := .lst []) PL
  have PB1 := get_old (o := .lst []) PB
  have PR1 := get_new (m := m5) (o := .lst [])
  have G1 := G.push (.lst [])
  have hrf : m5.length < (m5 ++ [MO.lst []]).length := by simp
  have hne2 : bf < m5.length ∧ lf < m5.length ∧ dn < m5.length := by have := G.len; omega
  have hgm := G.len
  generalize m5 ++ [MO.lst []] = m6 at *
  generalize m5.length = rf at *
  rw [s_seq]
  refine s_for1W ?_
  try simp -dsimp only [pix PD1 e13, at0, at1, at2, at3, at4, at5, at6, wp_fn, s_nil, s_brk, s_cnt, s_expr, s_ret, s_retN, s_if, s_asn, s_par, s_asg, g_nm, g_nil, g_cons, g_tupT, g_subW, w_v0, w_vS, w_c, w_op, w_un, w_anil, w_acons, w_tup, w_lst, w_call, w_callU, w_isi, w_meth, w_tru, w_bool, w_notS, w_andS, w_orS, w_ifx, w_andV, w_orV, w_notV, w_chain, wp_ok, wp_bad, wp_some, wp_none, wp_liftif, wp_if, asB_b, wp_noex, add_ii, sub_ii, mul_ii, fdiv_ii, mod_ii, pow_ii, neg_i, cmp_ii, lt_ii, le_ii, gt_ii, ge_ii, le_cc, muls_ii, muls_si, ins_cs, iadd_ii, isub_ii, w_onone, w_osome, w_sl, sl_s, sl_t, s_aug, eq_ss, len_s, ix_s, add_ss, str_s, tuple_t, list_t, is_n, not_n, non_n, non_i, non_b, non_s, non_t, non_r, abs_i, max_ii, min_ii, int_i, int_b, gcd_ii, len_t, ix_t, eq_v, ne_v, eq_ii, eq_bb, eq_nn, eq_in, eq_ni, iv_n_list, iv_n_tuple, iv_n_bool, iv_n_str, iv_n_int, okt_n, iv_b_list, iv_b_tuple, iv_b_bool, iv_b_str, iv_b_int, okt_b, iv_i_list, iv_i_tuple, iv_i_bool, iv_i_str, iv_i_int, okt_i, iv_s_list, iv_s_tuple, iv_s_bool, iv_s_str, iv_s_int, okt_s, iv_t_list, iv_t_tuple, iv_t_bool, iv_t_str, iv_t_int, okt_t, iv_r_list, iv_r_tuple, iv_r_bool, iv_r_str, iv_r_int, tru_b, tru_i, tru_n, tru_t, Option.map_some, Option.map_none, List.map_cons, List.map_nil, List.length_cons, List.length_nil, List.set_cons_zero, List.set_cons_succ, List.cons_append, List.nil_append, List.replicate, Nat.reduceAdd, Nat.reduceSub, Nat.reduceLeDiff, true_and, and_true, decide_eq_true_eq, reduceIte, Bool.false_eq_true, Bool.not_true, Bool.not_false, decide_true, decide_false]
  (repeat first | rw [if_pos (by decide)] | rw [fmod_pos (by omega)])
  walk_at "w0"
  refine ⟨_, rfl, by omega, by omega, fun i l m' => ∃ (R : List Race) (x3 x6 x7 x8 : Option PV), l = [some (.ref 0), some (.ref dn), some (.ref lf), x3, some (.ref bf), some (.ref rf), x6, x7, x8] ∧ m'[rf]? = some (MO.lst (R.map Race.pv)) ∧ (∀ r ∈ R, RaceOk L r ∧ 300 ≤ r.start ∧ r.close ≤ 3000 ∧ r.start ≤ 499 ∧ Cps r.name) ∧ (∀ (j : Nat) z, R[j]? = some z → z.name = [112 + j]) ∧ R.length = i ∧ m'[dn]? = some (MO.lst (ds.map PV.int)) ∧ m'[lf]? = some (MO.lst (L.map Loft.pv)) ∧ m'[bf]? = some (MO.lst (B.map Bird.pv)) ∧ Gr m m' ∧ rf < m'.length, ⟨[], _, _, _, _, rfl, PR1, no_mem1, fun j z e => by simp at e, rfl, PD1, PL1, PB1, G1, hrf⟩, ?_, ?_⟩
  · clear PD PL PB PD1 PL1 PB1 PR1 G G1 hrf
    rintro i l m' hi ⟨R, x3, x6, x7, x8, rfl, P, hR, hRn, hRl, PD, PL, PB, G, hrf⟩
    obtain ⟨u, eu, au, bu⟩ := hp.at (i := 14 + (i : Nat)) (by omega) (by omega)
    obtain ⟨v, ev, av, bv⟩ := hp.at (i := 16 + (i : Nat)) (by omega) (by omega)
    have ec := at_nm2 (a := 112) (i := i) (x := [112, 113]) rfl (by omega)
    obtain ⟨c, hcm⟩ : ∃ c, c = 112 + i := ⟨_, rfl⟩
    rw [← hcm] at ec
    unfold law_club_l3
    walk_at "w1"
    rw [s_seq]
    try simp -dsimp only [pix PD eu, at0, at1, at2, at3, at4, at5, at6, wp_fn, s_nil, s_brk, s_cnt, s_expr, s_ret, s_retN, s_if, s_asn, s_par, s_asg, g_nm, g_nil, g_cons, g_tupT, g_subW, w_v0, w_vS, w_c, w_op, w_un, w_anil, w_acons, w_tup, w_lst, w_call, w_callU, w_isi, w_meth, w_tru, w_bool, w_notS, w_andS, w_orS, w_ifx, w_andV, w_orV, w_notV, w_chain, wp_ok, wp_bad, wp_some, wp_none, wp_liftif, wp_if, asB_b, wp_noex, add_ii, sub_ii, mul_ii, fdiv_ii, mod_ii, pow_ii, neg_i, cmp_ii, lt_ii, le_ii, gt_ii, ge_ii, le_cc, muls_ii, muls_si, ins_cs, iadd_ii, isub_ii, w_onone, w_osome, w_sl, sl_s, sl_t, s_aug, eq_ss, len_s, ix_s, add_ss, str_s, tuple_t, list_t, is_n, not_n, non_n, non_i, non_b, non_s, non_t, non_r, abs_i, max_ii, min_ii, int_i, int_b, gcd_ii, len_t, ix_t, eq_v, ne_v, eq_ii, eq_bb, eq_nn, eq_in, eq_ni, iv_n_list, iv_n_tuple, iv_n_bool, iv_n_str, iv_n_int, okt_n, iv_b_list, iv_b_tuple, iv_b_bool, iv_b_str, iv_b_int, okt_b, iv_i_list, iv_i_tuple, iv_i_bool, iv_i_str, iv_i_int, okt_i, iv_s_list, iv_s_tuple, iv_s_bool, iv_s_str, iv_s_int, okt_s, iv_t_list, iv_t_tuple, iv_t_bool, iv_t_str, iv_t_int, okt_t, iv_r_list, iv_r_tuple, iv_r_bool, iv_r_str, iv_r_int, tru_b, tru_i, tru_n, tru_t, Option.map_some, Option.map_none, List.map_cons, List.map_nil, List.length_cons, List.length_nil, List.set_cons_zero, List.set_cons_succ, List.cons_append, List.nil_append, List.replicate, Nat.reduceAdd, Nat.reduceSub, Nat.reduceLeDiff, true_and, and_true, decide_eq_true_eq, reduceIte, Bool.false_eq_true, Bool.not_true, Bool.not_false, decide_true, decide_false]
    (repeat first | rw [if_pos (by decide)] | rw [fmod_pos (by omega)])
    walk_at "w0"
    rw [s_seq]
    try simp -dsimp only [pix PD ev, at0, at1, at2, at3, at4, at5, at6, wp_fn, s_nil, s_brk, s_cnt, s_expr, s_ret, s_retN, s_if, s_asn, s_par, s_asg, g_nm, g_nil, g_cons, g_tupT, g_subW, w_v0, w_vS, w_c, w_op, w_un, w_anil, w_acons, w_tup, w_lst, w_call, w_callU, w_isi, w_meth, w_tru, w_bool, w_notS, w_andS, w_orS, w_ifx, w_andV, w_orV, w_notV, w_chain, wp_ok, wp_bad, wp_some, wp_none, wp_liftif, wp_if, asB_b, wp_noex, add_ii, sub_ii, mul_ii, fdiv_ii, mod_ii, pow_ii, neg_i, cmp_ii, lt_ii, le_ii, gt_ii, ge_ii, le_cc, muls_ii, muls_si, ins_cs, iadd_ii, isub_ii, w_onone, w_osome, w_sl, sl_s, sl_t, s_aug, eq_ss, len_s, ix_s, add_ss, str_s, tuple_t, list_t, is_n, not_n, non_n, non_i, non_b, non_s, non_t, non_r, abs_i, max_ii, min_ii, int_i, int_b, gcd_ii, len_t, ix_t, eq_v, ne_v, eq_ii, eq_bb, eq_nn, eq_in, eq_ni, iv_n_list, iv_n_tuple, iv_n_bool, iv_n_str, iv_n_int, okt_n, iv_b_list, iv_b_tuple, iv_b_bool, iv_b_str, iv_b_int, okt_b, iv_i_list, iv_i_tuple, iv_i_bool, iv_i_str, iv_i_int, okt_i, iv_s_list, iv_s_tuple, iv_s_bool, iv_s_str, iv_s_int, okt_s, iv_t_list, iv_t_tuple, iv_t_bool, iv_t_str, iv_t_int, okt_t, iv_r_list, iv_r_tuple, iv_r_bool, iv_r_str, iv_r_int, tru_b, tru_i, tru_n, tru_t, Option.map_some, Option.map_none, List.map_cons, List.map_nil, List.length_cons, List.length_nil, List.set_cons_zero, List.set_cons_succ, List.cons_append, List.nil_append, List.replicate, Nat.reduceAdd, Nat.reduceSub, Nat.reduceLeDiff, true_and, and_true, decide_eq_true_eq, reduceIte, Bool.false_eq_true, Bool.not_true, Bool.not_false, decide_true, decide_false]
    have PDa := get_old (o := .lst [.int 90, .int 700, .int 2000]) PD
    have q1 := get_new (m := m') (o := .lst [.int 90, .int 700, .int 2000])
    have Pa := get_old (o := .lst [.int 90, .int 700, .int 2000]) P
    have PLa := get_old (o := .lst [.int 90, .int 700, .int 2000]) PL
    have PBa := get_old (o := .lst [.int 90, .int 700, .int 2000]) PB
    have Ga := G.push (.lst [.int 90, .int 700, .int 2000])
    have hrfa : rf < (m' ++ [MO.lst [.int 90, .int 700, .int 2000]]).length := by simp; omega
    generalize m' ++ [MO.lst [.int 90, .int 700, .int 2000]] = ma at *
    generalize m'.length = ka at *
    try simp -dsimp only [pix PDa e18, at0, at1, at2, at3, at4, at5, at6, wp_fn, s_nil, s_brk, s_cnt, s_expr, s_ret, s_retN, s_if, s_asn, s_par, s_asg, g_nm, g_nil, g_cons, g_tupT, g_subW, w_v0, w_vS, w_c, w_op, w_un, w_anil, w_acons, w_tup, w_lst, w_call, w_callU, w_isi, w_meth, w_tru, w_bool, w_notS, w_andS, w_orS, w_ifx, w_andV, w_orV, w_notV, w_chain, wp_ok, wp_bad, wp_some, wp_none, wp_liftif, wp_if, asB_b, wp_noex, add_ii, sub_ii, mul_ii, fdiv_ii, mod_ii, pow_ii, neg_i, cmp_ii, lt_ii, le_ii, gt_ii, ge_ii, le_cc, muls_ii, muls_si, ins_cs, iadd_ii, isub_ii, w_onone, w_osome, w_sl, sl_s, sl_t, s_aug, eq_ss, len_s, ix_s, add_ss, str_s, tuple_t, list_t, is_n, not_n, non_n, non_i, non_b, non_s, non_t, non_r, abs_i, max_ii, min_ii, int_i, int_b, gcd_ii, len_t, ix_t, eq_v, ne_v, eq_ii, eq_bb, eq_nn, eq_in, eq_ni, iv_n_list, iv_n_tuple, iv_n_bool, iv_n_str, iv_n_int, okt_n, iv_b_list, iv_b_tuple, iv_b_bool, iv_b_str, iv_b_int, okt_b, iv_i_list, iv_i_tuple, iv_i_bool, iv_i_str, iv_i_int, okt_i, iv_s_list, iv_s_tuple, iv_s_bool, iv_s_str, iv_s_int, okt_s, iv_t_list, iv_t_tuple, iv_t_bool, iv_t_str, iv_t_int, okt_t, iv_r_list, iv_r_tuple, iv_r_bool, iv_r_str, iv_r_int, tru_b, tru_i, tru_n, tru_t, Option.map_some, Option.map_none, List.map_cons, List.map_nil, List.length_cons, List.length_nil, List.set_cons_zero, List.set_cons_succ, List.cons_append, List.nil_append, List.replicate, Nat.reduceAdd, Nat.reduceSub, Nat.reduceLeDiff, true_and, and_true, decide_eq_true_eq, reduceIte, Bool.false_eq_true, Bool.not_true, Bool.not_false, decide_true, decide_false]
    (repeat first | rw [if_pos (by decide)] | rw [fmod_pos (by omega)])
    walk_at "w0"
    obtain ⟨w, ew, hw⟩ := pick3 q1 (v := d18 % 3) (by omega) (by omega)
    try simp -dsimp only [ew, at0, at1, at2, at3, at4, at5, at6, wp_fn, s_nil, s_brk, s_cnt, s_expr, s_ret, s_retN, s_if, s_asn, s_par, s_asg, g_nm, g_nil, g_cons, g_tupT, g_subW, w_v0, w_vS, w_c, w_op, w_un, w_anil, w_acons, w_tup, w_lst, w_call, w_callU, w_isi, w_meth, w_tru, w_bool, w_notS, w_andS, w_orS, w_ifx, w_andV, w_orV, w_notV, w_chain, wp_ok, wp_bad, wp_some, wp_none, wp_liftif, wp_if, asB_b, wp_noex, add_ii, sub_ii, mul_ii, fdiv_ii, mod_ii, pow_ii, neg_i, cmp_ii, lt_ii, le_ii, gt_ii, ge_ii, le_cc, muls_ii, muls_si, ins_cs, iadd_ii, isub_ii, w_onone, w_osome, w_sl, sl_s, sl_t, s_aug, eq_ss, len_s, ix_s, add_ss, str_s, tuple_t, list_t, is_n, not_n, non_n, non_i, non_b, non_s, non_t, non_r, abs_i, max_ii, min_ii, int_i, int_b, gcd_ii, len_t, ix_t, eq_v, ne_v, eq_ii, eq_bb, eq_nn, eq_in, eq_ni, iv_n_list, iv_n_tuple, iv_n_bool, iv_n_str, iv_n_int, okt_n, iv_b_list, iv_b_tuple, iv_b_bool, iv_b_str, iv_b_int, okt_b, iv_i_list, iv_i_tuple, iv_i_bool, iv_i_str, iv_i_int, okt_i, iv_s_list, iv_s_tuple, iv_s_bool, iv_s_str, iv_s_int, okt_s, iv_t_list, iv_t_tuple, iv_t_bool, iv_t_str, iv_t_int, okt_t, iv_r_list, iv_r_tuple, iv_r_bool, iv_r_str, iv_r_int, tru_b, tru_i, tru_n, tru_t, Option.map_some, Option.map_none, List.map_cons, List.map_nil, List.length_cons, List.length_nil, List.set_cons_zero, List.set_cons_succ, List.cons_append, List.nil_append, List.replicate, Nat.reduceAdd, Nat.reduceSub, Nat.reduceLeDiff, true_and, and_true, decide_eq_true_eq, reduceIte, Bool.false_eq_true, Bool.not_true, Bool.not_false, decide_true, decide_false]
    rw [if_pos (by omega), fmod_pos (by omega)]
    have hvw : 0 ≤ v % w ∧ v % w < 2000 := by
      have h1 := Int.emod_nonneg v (show w ≠ 0 by omega)
      have h2 := Int.emod_lt_of_pos v (show 0 < w by omega)
      omega
    walk_at "w0"
    generalize hcl : (300 : Int) + u % 200 + 1 + v % w = cl
    generalize hst : (300 : Int) + u % 200 = st at *
    rw [s_seq]
    walk_at "w0"
    have PDb := get_old (o := .lst [.int (st - 20), .int (st + 30), .int 1200, .int 0]) PDa
    have q2 := get_new (m := ma) (o := .lst [.int (st - 20), .int (st + 30), .int 1200, .int 0])
    have Pb := get_old (o := .lst [.int (st - 20), .int (st + 30), .int 1200, .int 0]) Pa
    have PLb := get_old (o := .lst [.int (st - 20), .int (st + 30), .int 1200, .int 0]) PLa
    have PBb := get_old (o := .lst [.int (st - 20), .int (st + 30), .int 1200, .int 0]) PBa
    have Gb := Ga.push (.lst [.int (st - 20), .int (st + 30), .int 1200, .int 0])
    have hrfb : rf < (ma ++ [MO.lst [.int (st - 20), .int (st + 30), .int 1200, .int 0]]).length := by simp; omega
    generalize ma ++ [MO.lst [.int (st - 20), .int (st + 30), .int 1200, .int 0]] = mb at *
    generalize ma.length = kb at *
    try simp -dsimp only [pix PDb e19, at0, at1, at2, at3, at4, at5, at6, wp_fn, s_nil, s_brk, s_cnt, s_expr, s_ret, s_retN, s_if, s_asn, s_par, s_asg, g_nm, g_nil, g_cons, g_tupT, g_subW, w_v0, w_vS, w_c, w_op, w_un, w_anil, w_acons, w_tup, w_lst, w_call, w_callU, w_isi, w_meth, w_tru, w_bool, w_notS, w_andS, w_orS, w_ifx, w_andV, w_orV, w_notV, w_chain, wp_ok, wp_bad, wp_some, wp_none, wp_liftif, wp_if, asB_b, wp_noex, add_ii, sub_ii, mul_ii, fdiv_ii, mod_ii, pow_ii, neg_i, cmp_ii, lt_ii, le_ii, gt_ii, ge_ii, le_cc, muls_ii, muls_si, ins_cs, iadd_ii, isub_ii, w_onone, w_osome, w_sl, sl_s, sl_t, s_aug, eq_ss, len_s, ix_s, add_ss, str_s, tuple_t, list_t, is_n, not_n, non_n, non_i, non_b, non_s, non_t, non_r, abs_i, max_ii, min_ii, int_i, int_b, gcd_ii, len_t, ix_t, eq_v, ne_v, eq_ii, eq_bb, eq_nn, eq_in, eq_ni, iv_n_list, iv_n_tuple, iv_n_bool, iv_n_str, iv_n_int, okt_n, iv_b_list, iv_b_tuple, iv_b_bool, iv_b_str, iv_b_int, okt_b, iv_i_list, iv_i_tuple, iv_i_bool, iv_i_str, iv_i_int, okt_i, iv_s_list, iv_s_tuple, iv_s_bool, iv_s_str, iv_s_int, okt_s, iv_t_list, iv_t_tuple, iv_t_bool, iv_t_str, iv_t_int, okt_t, iv_r_list, iv_r_tuple, iv_r_bool, iv_r_str, iv_r_int, tru_b, tru_i, tru_n, tru_t, Option.map_some, Option.map_none, List.map_cons, List.map_nil, List.length_cons, List.length_nil, List.set_cons_zero, List.set_cons_succ, List.cons_append, List.nil_append, List.replicate, Nat.reduceAdd, Nat.reduceSub, Nat.reduceLeDiff, true_and, and_true, decide_eq_true_eq, reduceIte, Bool.false_eq_true, Bool.not_true, Bool.not_false, decide_true, decide_false]
    (repeat first | rw [if_pos (by decide)] | rw [fmod_pos (by omega)])
    walk_at "w0"
    obtain ⟨y, ey, hy⟩ := pick4 q2 (v := d19 % 4) (by omega) (by omega)
    try simp -dsimp only [ey, at0, at1, at2, at3, at4, at5, at6, wp_fn, s_nil, s_brk, s_cnt, s_expr, s_ret, s_retN, s_if, s_asn, s_par, s_asg, g_nm, g_nil, g_cons, g_tupT, g_subW, w_v0, w_vS, w_c, w_op, w_un, w_anil, w_acons, w_tup, w_lst, w_call, w_callU, w_isi, w_meth, w_tru, w_bool, w_notS, w_andS, w_orS, w_ifx, w_andV, w_orV, w_notV, w_chain, wp_ok, wp_bad, wp_some, wp_none, wp_liftif, wp_if, asB_b, wp_noex, add_ii, sub_ii, mul_ii, fdiv_ii, mod_ii, pow_ii, neg_i, cmp_ii, lt_ii, le_ii, gt_ii, ge_ii, le_cc, muls_ii, muls_si, ins_cs, iadd_ii, isub_ii, w_onone, w_osome, w_sl, sl_s, sl_t, s_aug, eq_ss, len_s, ix_s, add_ss, str_s, tuple_t, list_t, is_n, not_n, non_n, non_i, non_b, non_s, non_t, non_r, abs_i, max_ii, min_ii, int_i, int_b, gcd_ii, len_t, ix_t, eq_v, ne_v, eq_ii, eq_bb, eq_nn, eq_in, eq_ni, iv_n_list, iv_n_tuple, iv_n_bool, iv_n_str, iv_n_int, okt_n, iv_b_list, iv_b_tuple, iv_b_bool, iv_b_str, iv_b_int, okt_b, iv_i_list, iv_i_tuple, iv_i_bool, iv_i_str, iv_i_int, okt_i, iv_s_list, iv_s_tuple, iv_s_bool, iv_s_str, iv_s_int, okt_s, iv_t_list, iv_t_tuple, iv_t_bool, iv_t_str, iv_t_int, okt_t, iv_r_list, iv_r_tuple, iv_r_bool, iv_r_str, iv_r_int, tru_b, tru_i, tru_n, tru_t, Option.map_some, Option.map_none, List.map_cons, List.map_nil, List.length_cons, List.length_nil, List.set_cons_zero, List.set_cons_succ, List.cons_append, List.nil_append, List.replicate, Nat.reduceAdd, Nat.reduceSub, Nat.reduceLeDiff, true_and, and_true, decide_eq_true_eq, reduceIte, Bool.false_eq_true, Bool.not_true, Bool.not_false, decide_true, decide_false]
    refine ⟨isLst_r Pb, ?_⟩
    try simp -dsimp only [ec, pix PDb ev, pix PDb e18, at0, at1, at2, at3, at4, at5, at6, wp_fn, s_nil, s_brk, s_cnt, s_expr, s_ret, s_retN, s_if, s_asn, s_par, s_asg, g_nm, g_nil, g_cons, g_tupT, g_subW, w_v0, w_vS, w_c, w_op, w_un, w_anil, w_acons, w_tup, w_lst, w_call, w_callU, w_isi, w_meth, w_tru, w_bool, w_notS, w_andS, w_orS, w_ifx, w_andV, w_orV, w_notV, w_chain, wp_ok, wp_bad, wp_some, wp_none, wp_liftif, wp_if, asB_b, wp_noex, add_ii, sub_ii, mul_ii, fdiv_ii, mod_ii, pow_ii, neg_i, cmp_ii, lt_ii, le_ii, gt_ii, ge_ii, le_cc, muls_ii, muls_si, ins_cs, iadd_ii, isub_ii, w_onone, w_osome, w_sl, sl_s, sl_t, s_aug, eq_ss, len_s, ix_s, add_ss, str_s, tuple_t, list_t, is_n, not_n, non_n, non_i, non_b, non_s, non_t, non_r, abs_i, max_ii, min_ii, int_i, int_b, gcd_ii, len_t, ix_t, eq_v, ne_v, eq_ii, eq_bb, eq_nn, eq_in, eq_ni, iv_n_list, iv_n_tuple, iv_n_bool, iv_n_str, iv_n_int, okt_n, iv_b_list, iv_b_tuple, iv_b_bool, iv_b_str, iv_b_int, okt_b, iv_i_list, iv_i_tuple, iv_i_bool, iv_i_str, iv_i_int, okt_i, iv_s_list, iv_s_tuple, iv_s_bool, iv_s_str, iv_s_int, okt_s, iv_t_list, iv_t_tuple, iv_t_bool, iv_t_str, iv_t_int, okt_t, iv_r_list, iv_r_tuple, iv_r_bool, iv_r_str, iv_r_int, tru_b, tru_i, tru_n, tru_t, Option.map_some, Option.map_none, List.map_cons, List.map_nil, List.length_cons, List.length_nil, List.set_cons_zero, List.set_cons_succ, List.cons_append, List.nil_append, List.replicate, Nat.reduceAdd, Nat.reduceSub, Nat.reduceLeDiff, true_and, and_true, decide_eq_true_eq, reduceIte, Bool.false_eq_true, Bool.not_true, Bool.not_false, decide_true, decide_false]
    (repeat first | rw [if_pos (by decide)] | rw [fmod_pos (by omega)])
    walk_at "w0"
    (repeat first | rw [if_pos (by decide)] | rw [fmod_pos (by omega)])
    walk_at "w0"
    rw [append_r Pb (by rw [List.length_map]; omega)]
    walk_at "w0"
    refine ⟨R ++ [⟨[c], 10 + v % 5, 20 + (i : Nat), st, cl, y, (y + d18 % 700) % 1440⟩], _, _, _, _, rfl, (get_set_eq Pb).trans ?_, fun z hz => (List.mem_append.mp hz).elim (hR z) fun e => ?_, nm_snoc hRn (by show [c] = _; rw [hcm, hRl]), by simp [hRl], by rw [List.getElem?_set_ne (by omega)]; exact PDb, by rw [List.getElem?_set_ne (by omega)]; exact PLb, by rw [List.getElem?_set_ne (by omega)]; exact PBb, Gb.set (by omega), by simpa using hrfb⟩
    · rw [List.map_append]; rfl
    · rw [List.mem_singleton.mp e]
      refine ⟨⟨⟨?_, ?_⟩, ⟨?_, ?_⟩, ⟨?_, ?_⟩, ⟨?_, ?_⟩, ⟨?_, ?_⟩, ⟨?_, ?_⟩, fun hm => ?_⟩, ?_, ?_, ?_, fun y hy => by
        rw [List.mem_singleton.mp hy]
        omega⟩
      all_goals try dsimp only
      all_goals first
        | omega
        | skip
      obtain ⟨l, hl, e⟩ := List.mem_map.mp hm
      have := (hL l hl).2.1
      have e1 : l.x = 10 + v % 5 := congrArg Prod.fst e
      omega
  · clear PD PL PB PD1 PL1 PB1 PR1 G G1 hrf
    rintro l m' ⟨R, x3, x6, x7, x8, rfl, PR, hR, hRn, hRl, PD, PL, PB, G, hrf⟩
    try simp -dsimp only [tuple_r (seq_of_lst PL), tuple_r (seq_of_lst PB), tuple_r (seq_of_lst PR), at0, at1, at2, at3, at4, at5, at6, wp_fn, s_nil, s_brk, s_cnt, s_expr, s_ret, s_retN, s_if, s_asn, s_par, s_asg, g_nm, g_nil, g_cons, g_tupT, g_subW, w_v0, w_vS, w_c, w_op, w_un, w_anil, w_acons, w_tup, w_lst, w_call, w_callU, w_isi, w_meth, w_tru, w_bool, w_notS, w_andS, w_orS, w_ifx, w_andV, w_orV, w_notV, w_chain, wp_ok, wp_bad, wp_some, wp_none, wp_liftif, wp_if, asB_b, wp_noex, add_ii, sub_ii, mul_ii, fdiv_ii, mod_ii, pow_ii, neg_i, cmp_ii, lt_ii, le_ii, gt_ii, ge_ii, le_cc, muls_ii, muls_si, ins_cs, iadd_ii, isub_ii, w_onone, w_osome, w_sl, sl_s, sl_t, s_aug, eq_ss, len_s, ix_s, add_ss, str_s, tuple_t, list_t, is_n, not_n, non_n, non_i, non_b, non_s, non_t, non_r, abs_i, max_ii, min_ii, int_i, int_b, gcd_ii, len_t, ix_t, eq_v, ne_v, eq_ii, eq_bb, eq_nn, eq_in, eq_ni, iv_n_list, iv_n_tuple, iv_n_bool, iv_n_str, iv_n_int, okt_n, iv_b_list, iv_b_tuple, iv_b_bool, iv_b_str, iv_b_int, okt_b, iv_i_list, iv_i_tuple, iv_i_bool, iv_i_str, iv_i_int, okt_i, iv_s_list, iv_s_tuple, iv_s_bool, iv_s_str, iv_s_int, okt_s, iv_t_list, iv_t_tuple, iv_t_bool, iv_t_str, iv_t_int, okt_t, iv_r_list, iv_r_tuple, iv_r_bool, iv_r_str, iv_r_int, tru_b, tru_i, tru_n, tru_t, Option.map_some, Option.map_none, List.map_cons, List.map_nil, List.length_cons, List.length_nil, List.set_cons_zero, List.set_cons_succ, List.cons_append, List.nil_append, List.replicate, Nat.reduceAdd, Nat.reduceSub, Nat.reduceLeDiff, true_and, and_true, decide_eq_true_eq, reduceIte, Bool.false_eq_true, Bool.not_true, Bool.not_false, decide_true, decide_false]
    refine ⟨L, B, R, rfl, ⟨hL1, hL2, hB1, hB2, by omega, by omega, fun l hl => (hL l hl).1, fun b hb => ?_, fun b hb => ?_, ?_, fun r hr => (hR r hr).1, fun r hr => (hR r hr).2, fun l hl => (hL l hl).2.2, hLn, hRn, fun b hb => ?_, fun b hb => ?_⟩, G⟩
    · obtain ⟨j, hj⟩ := List.getElem?_of_mem hb
      exact (hB j b hj).2.1
    · obtain ⟨j, hj⟩ := List.getElem?_of_mem hb
      have h1 := (hB j b hj).1
      have h2 := (List.getElem?_eq_some_iff.mp hj).1
      omega
    · rw [List.nodup_iff_pairwise_ne, List.pairwise_iff_getElem]
      intro a b ha hb hab he
      rw [List.getElem_map, List.getElem_map] at he
      rw [List.length_map] at ha hb
      have h1 := (hB a _ (List.getElem?_eq_getElem ha)).1
      have h2 := (hB b _ (List.getElem?_eq_getElem hb)).1
      omega
    · obtain ⟨j, hj⟩ := List.getElem?_of_mem hb
      have h1 := (hB j b hj).1
      have h2 := (hB j b hj).2.2
      have h3 := (List.getElem?_eq_some_iff.mp hj).1
      omega
    · obtain ⟨j, hj⟩ := List.getElem?_of_mem hb
      have h1 := (hB j b hj).1
      have h3 := (List.getElem?_eq_some_iff.mp hj).1
      omega
def Ap (m m' : MH) : Prop := ∃ os, m' = m ++ os
theorem Ap.refl {m : MH} : Ap m m := ⟨[], by simp⟩
theorem Ap.one {m : MH} {o : MO} : Ap m (m ++ [o]) := ⟨[o], rfl⟩
theorem Ap.trans {m m1 m2 : MH} (h : Ap m m1) (h2 : Ap m1 m2) : Ap m m2 := by
  obtain ⟨a, rfl⟩ := h; obtain ⟨c, rfl⟩ := h2; exact ⟨a ++ c, by simp⟩
theorem Ap.get {m m' : MH} (h : Ap m m') {n : Nat} {o : MO} (e : m[n]? = some o) : m'[n]? = some o := by
  obtain ⟨a, rfl⟩ := h
  rw [List.getElem?_append_left (List.getElem?_eq_some_iff.mp e).1]; exact e
def NoRef (v : PV) : Prop := ∀ n, v ≠ .ref n
def frm (v : PV) (lo hi : Int) : Bool := match v with | .int i => decide (lo ≤ i) && decide (i ≤ hi) | _ => false
theorem isfrom_ok {m : MH} {v : PV} {lo hi : Int} (hv : NoRef v) : WP (f_is_from [v, .int lo, .int hi] m) (fun x m' => x = .bl (frm v lo hi) ∧ m' = m) NoE := by
  unfold f_is_from b_is_from
  cases v with
  | ref n => exact absurd rfl (hv n)
  | int i =>
    try simp -dsimp only [w_tis, tyName, frm, at0, at1, at2, at3, at4, at5, at6, wp_fn, s_nil, s_brk, s_cnt, s_expr, s_ret, s_retN, s_if, s_asn, s_par, s_asg, g_nm, g_nil, g_cons, g_tupT, g_subW, w_v0, w_vS, w_c, w_op, w_un, w_anil, w_acons, w_tup, w_lst, w_call, w_callU, w_isi, w_meth, w_tru, w_bool, w_notS, w_andS, w_orS, w_ifx, w_andV, w_orV, w_notV, w_chain, wp_ok, wp_bad, wp_some, wp_none, wp_liftif, wp_if, asB_b, wp_noex, add_ii, sub_ii, mul_ii, fdiv_ii, mod_ii, pow_ii, neg_i, cmp_ii, lt_ii, le_ii, gt_ii, ge_ii, le_cc, muls_ii, muls_si, ins_cs, iadd_ii, isub_ii, w_onone, w_osome, w_sl, sl_s, sl_t, s_aug, eq_ss, len_s, ix_s, add_ss, str_s, tuple_t, list_t, is_n, not_n, non_n, non_i, non_b, non_s, non_t, non_r, abs_i, max_ii, min_ii, int_i, int_b, gcd_ii, len_t, ix_t, eq_v, ne_v, eq_ii, eq_bb, eq_nn, eq_in, eq_ni, iv_n_list, iv_n_tuple, iv_n_bool, iv_n_str, iv_n_int, okt_n, iv_b_list, iv_b_tuple, iv_b_bool, iv_b_str, iv_b_int, okt_b, iv_i_list, iv_i_tuple, iv_i_bool, iv_i_str, iv_i_int, okt_i, iv_s_list, iv_s_tuple, iv_s_bool, iv_s_str, iv_s_int, okt_s, iv_t_list, iv_t_tuple, iv_t_bool, iv_t_str, iv_t_int, okt_t, iv_r_list, iv_r_tuple, iv_r_bool, iv_r_str, iv_r_int, tru_b, tru_i, tru_n, tru_t, Option.map_some, Option.map_none, List.map_cons, List.map_nil, List.length_cons, List.length_nil, List.set_cons_zero, List.set_cons_succ, List.cons_append, List.nil_append, List.replicate, Nat.reduceAdd, Nat.reduceSub, Nat.reduceLeDiff, true_and, and_true, decide_eq_true_eq, reduceIte, Bool.false_eq_true, Bool.not_true, Bool.not_false, decide_true, decide_false]
    by_cases c : lo ≤ i
    · simp [c]
    · simp [c]
  | non => try simp -dsimp only [w_tis, tyName, frm, at0, at1, at2, at3, at4, at5, at6, wp_fn, s_nil, s_brk, s_cnt, s_expr, s_ret, s_retN, s_if, s_asn, s_par, s_asg, g_nm, g_nil, g_cons, g_tupT, g_subW, w_v0, w_vS, w_c, w_op, w_un, w_anil, w_acons, w_tup, w_lst, w_call, w_callU, w_isi, w_meth, w_tru, w_bool, w_notS, w_andS, w_orS, w_ifx, w_andV, w_orV, w_notV, w_chain, wp_ok, wp_bad, wp_some, wp_none, wp_liftif, wp_if, asB_b, wp_noex, add_ii, sub_ii, mul_ii, fdiv_ii, mod_ii, pow_ii, neg_i, cmp_ii, lt_ii, le_ii, gt_ii, ge_ii, le_cc, muls_ii, muls_si, ins_cs, iadd_ii, isub_ii, w_onone, w_osome, w_sl, sl_s, sl_t, s_aug, eq_ss, len_s, ix_s, add_ss, str_s, tuple_t, list_t, is_n, not_n, non_n, non_i, non_b, non_s, non_t, non_r, abs_i, max_ii, min_ii, int_i, int_b, gcd_ii, len_t, ix_t, eq_v, ne_v, eq_ii, eq_bb, eq_nn, eq_in, eq_ni, iv_n_list, iv_n_tuple, iv_n_bool, iv_n_str, iv_n_int, okt_n, iv_b_list, iv_b_tuple, iv_b_bool, iv_b_str, iv_b_int, okt_b, iv_i_list, iv_i_tuple, iv_i_bool, iv_i_str, iv_i_int, okt_i, iv_s_list, iv_s_tuple, iv_s_bool, iv_s_str, iv_s_int, okt_s, iv_t_list, iv_t_tuple, iv_t_bool, iv_t_str, iv_t_int, okt_t, iv_r_list, iv_r_tuple, iv_r_bool, iv_r_str, iv_r_int, tru_b, tru_i, tru_n, tru_t, Option.map_some, Option.map_none, List.map_cons, List.map_nil, List.length_cons, List.length_nil, List.set_cons_zero, List.set_cons_succ, List.cons_append, List.nil_append, List.replicate, Nat.reduceAdd, Nat.reduceSub, Nat.reduceLeDiff, true_and, and_true, decide_eq_true_eq, reduceIte, Bool.false_eq_true, Bool.not_true, Bool.not_false, decide_true, decide_false]; try simp
  | bl b => try simp -dsimp only [w_tis, tyName, frm, at0, at1, at2, at3, at4, at5, at6, wp_fn, s_nil, s_brk, s_cnt, s_expr, s_ret, s_retN, s_if, s_asn, s_par, s_asg, g_nm, g_nil, g_cons, g_tupT, g_subW, w_v0, w_vS, w_c, w_op, w_un, w_anil, w_acons, w_tup, w_lst, w_call, w_callU, w_isi, w_meth, w_tru, w_bool, w_notS, w_andS, w_orS, w_ifx, w_andV, w_orV, w_notV, w_chain, wp_ok, wp_bad, wp_some, wp_none, wp_liftif, wp_if, asB_b, wp_noex, add_ii, sub_ii, mul_ii, fdiv_ii, mod_ii, pow_ii, neg_i, cmp_ii, lt_ii, le_ii, gt_ii, ge_ii, le_cc, muls_ii, muls_si, ins_cs, iadd_ii, isub_ii, w_onone, w_osome, w_sl, sl_s, sl_t, s_aug, eq_ss, len_s, ix_s, add_ss, str_s, tuple_t, list_t, is_n, not_n, non_n, non_i, non_b, non_s, non_t, non_r, abs_i, max_ii, min_ii, int_i, int_b, gcd_ii, len_t, ix_t, eq_v, ne_v, eq_ii, eq_bb, eq_nn, eq_in, eq_ni, iv_n_list, iv_n_tuple, iv_n_bool, iv_n_str, iv_n_int, okt_n, iv_b_list, iv_b_tuple, iv_b_bool, iv_b_str, iv_b_int, okt_b, iv_i_list, iv_i_tuple, iv_i_bool, iv_i_str, iv_i_int, okt_i, iv_s_list, iv_s_tuple, iv_s_bool, iv_s_str, iv_s_int, okt_s, iv_t_list, iv_t_tuple, iv_t_bool, iv_t_str, iv_t_int, okt_t, iv_r_list, iv_r_tuple, iv_r_bool, iv_r_str, iv_r_int, tru_b, tru_i, tru_n, tru_t, Option.map_some, Option.map_none, List.map_cons, List.map_nil, List.length_cons, List.length_nil, List.set_cons_zero, List.set_cons_succ, List.cons_append, List.nil_append, List.replicate, Nat.reduceAdd, Nat.reduceSub, Nat.reduceLeDiff, true_and, and_true, decide_eq_true_eq, reduceIte, Bool.false_eq_true, Bool.not_true, Bool.not_false, decide_true, decide_false]; try simp
  | str s => try simp -dsimp only [w_tis, tyName, frm, at0, at1, at2, at3, at4, at5, at6, wp_fn, s_nil, s_brk, s_cnt, s_expr, s_ret, s_retN, s_if, s_asn, s_par, s_asg, g_nm, g_nil, g_cons, g_tupT, g_subW, w_v0, w_vS, w_c, w_op, w_un, w_anil, w_acons, w_tup, w_lst, w_call, w_callU, w_isi, w_meth, w_tru, w_bool, w_notS, w_andS, w_orS, w_ifx, w_andV, w_orV, w_notV, w_chain, wp_ok, wp_bad, wp_some, wp_none, wp_liftif, wp_if, asB_b, wp_noex, add_ii, sub_ii, mul_ii, fdiv_ii, mod_ii, pow_ii, neg_i, cmp_ii, lt_ii, le_ii, gt_ii, ge_ii, le_cc, muls_ii, muls_si, ins_cs, iadd_ii, isub_ii, w_onone, w_osome, w_sl, sl_s, sl_t, s_aug, eq_ss, len_s, ix_s, add_ss, str_s, tuple_t, list_t, is_n, not_n, non_n, non_i, non_b, non_s, non_t, non_r, abs_i, max_ii, min_ii, int_i, int_b, gcd_ii, len_t, ix_t, eq_v, ne_v, eq_ii, eq_bb, eq_nn, eq_in, eq_ni, iv_n_list, iv_n_tuple, iv_n_bool, iv_n_str, iv_n_int, okt_n, iv_b_list, iv_b_tuple, iv_b_bool, iv_b_str, iv_b_int, okt_b, iv_i_list, iv_i_tuple, iv_i_bool, iv_i_str, iv_i_int, okt_i, iv_s_list, iv_s_tuple, iv_s_bool, iv_s_str, iv_s_int, okt_s, iv_t_list, iv_t_tuple, iv_t_bool, iv_t_str, iv_t_int, okt_t, iv_r_list, iv_r_tuple, iv_r_bool, iv_r_str, iv_r_int, tru_b, tru_i, tru_n, tru_t, Option.map_some, Option.map_none, List.map_cons, List.map_nil, List.length_cons, List.length_nil, List.set_cons_zero, List.set_cons_succ, List.cons_append, List.nil_append, List.replicate, Nat.reduceAdd, Nat.reduceSub, Nat.reduceLeDiff, true_and, and_true, decide_eq_true_eq, reduceIte, Bool.false_eq_true, Bool.not_true, Bool.not_false, decide_true, decide_false]; try simp
  | tup xs => try simp -dsimp only [w_tis, tyName, frm, at0, at1, at2, at3, at4, at5, at6, wp_fn, s_nil, s_brk, s_cnt, s_expr, s_ret, s_retN, s_if, s_asn, s_par, s_asg, g_nm, g_nil, g_cons, g_tupT, g_subW, w_v0, w_vS, w_c, w_op, w_un, w_anil, w_acons, w_tup, w_lst, w_call, w_callU, w_isi, w_meth, w_tru, w_bool, w_notS, w_andS, w_orS, w_ifx, w_andV, w_orV, w_notV, w_chain, wp_ok, wp_bad, wp_some, wp_none, wp_liftif, wp_if, asB_b, wp_noex, add_ii, sub_ii, mul_ii, fdiv_ii, mod_ii, pow_ii, neg_i, cmp_ii, lt_ii, le_ii, gt_ii, ge_ii, le_cc, muls_ii, muls_si, ins_cs, iadd_ii, isub_ii, w_onone, w_osome, w_sl, sl_s, sl_t, s_aug, eq_ss, len_s, ix_s, add_ss, str_s, tuple_t, list_t, is_n, not_n, non_n, non_i, non_b, non_s, non_t, non_r, abs_i, max_ii, min_ii, int_i, int_b, gcd_ii, len_t, ix_t, eq_v, ne_v, eq_ii, eq_bb, eq_nn, eq_in, eq_ni, iv_n_list, iv_n_tuple, iv_n_bool, iv_n_str, iv_n_int, okt_n, iv_b_list, iv_b_tuple, iv_b_bool, iv_b_str, iv_b_int, okt_b, iv_i_list, iv_i_tuple, iv_i_bool, iv_i_str, iv_i_int, okt_i, iv_s_list, iv_s_tuple, iv_s_bool, iv_s_str, iv_s_int, okt_s, iv_t_list, iv_t_tuple, iv_t_bool, iv_t_str, iv_t_int, okt_t, iv_r_list, iv_r_tuple, iv_r_bool, iv_r_str, iv_r_int, tru_b, tru_i, tru_n, tru_t, Option.map_some, Option.map_none, List.map_cons, List.map_nil, List.length_cons, List.length_nil, List.set_cons_zero, List.set_cons_succ, List.cons_append, List.nil_append, List.replicate, Nat.reduceAdd, Nat.reduceSub, Nat.reduceLeDiff, true_and, and_true, decide_eq_true_eq, reduceIte, Bool.false_eq_true, Bool.not_true, Bool.not_false, decide_true, decide_false]; try simp
def ringIn (B : List Bird) (v : PV) : Bool := match v with | .int t => decide (t ∈ B.map Bird.ring) | _ => false
theorem rings_lc {L : List Loft} {B : List Bird} {R : List Race} {l : SM.Loc} {m : MH} {i : Nat} {Q : PV → MH → Prop} {E : EX} (hi : i < l.length) (hB : B.length ≤ 100) (hl : l[0]? = some (some (clubPV L B R)))
    (q : Q (.ref m.length) (m ++ [.lst ((B.map Bird.ring).map .int)])) : WP (sLc (iSeq (sOp ixv (sVar 0) (sC (.int 1)))) (gNm i) tYesS (sOp ixv (sVar i) (sC (.int 0))) [i] l m) Q E := by
  refine w_lcT ?_
  rw [w_op, w_var hl, w_c]
  unfold clubPV
  walk_at "w0"
  refine ⟨_, rfl, fun k acc m' => acc = ((B.take k).map Bird.ring).map .int ∧ m' = m ++ [.lst acc], ⟨by simp, rfl⟩, ?_, ?_⟩
  · rintro k x acc m' hx ha ⟨rfl, rfl⟩
    rw [List.getElem?_map] at hx
    cases hb : B[k]? with
    | none => rw [hb] at hx; cases hx
    | some b =>
    rw [hb] at hx
    cases hx
    have hk := (List.getElem?_eq_some_iff.mp hb).1
    simp only [wipeP]
    rw [w_yes, if_pos rfl, w_op, w_var (v := b.pv) (by rw [List.getElem?_set_self (by simpa using hi)]), w_c]
    unfold Bird.pv
    walk_at "w0"
    exact ⟨ha, by rw [List.length_map, List.length_map, List.length_take]; omega, by rw [List.take_succ, hb]; simp, set_new⟩
  · rintro acc m' ha ⟨rfl, rfl⟩
    rw [List.length_map, List.take_length]
    exact q
theorem isring_ok {m : MH} {L : List Loft} {B : List Bird} {R : List Race} {v : PV} (hv : NoRef v) (hB : B.length ≤ 100) : WP (f_is_ring [clubPV L B R, v] m) (fun x m' => x = .bl (ringIn B v) ∧ Ap m m') NoE := by
  unfold f_is_ring b_is_ring
  cases v with
  | ref n => exact absurd rfl (hv n)
  | int t =>
    try simp -dsimp only [w_tis, tyName, at0, at1, at2, at3, at4, at5, at6, wp_fn, s_nil, s_brk, s_cnt, s_expr, s_ret, s_retN, s_if, s_asn, s_par, s_asg, g_nm, g_nil, g_cons, g_tupT, g_subW, w_v0, w_vS, w_c, w_op, w_un, w_anil, w_acons, w_tup, w_lst, w_call, w_callU, w_isi, w_meth, w_tru, w_bool, w_notS, w_andS, w_orS, w_ifx, w_andV, w_orV, w_notV, w_chain, wp_ok, wp_bad, wp_some, wp_none, wp_liftif, wp_if, asB_b, wp_noex, add_ii, sub_ii, mul_ii, fdiv_ii, mod_ii, pow_ii, neg_i, cmp_ii, lt_ii, le_ii, gt_ii, ge_ii, le_cc, muls_ii, muls_si, ins_cs, iadd_ii, isub_ii, w_onone, w_osome, w_sl, sl_s, sl_t, s_aug, eq_ss, len_s, ix_s, add_ss, str_s, tuple_t, list_t, is_n, not_n, non_n, non_i, non_b, non_s, non_t, non_r, abs_i, max_ii, min_ii, int_i, int_b, gcd_ii, len_t, ix_t, eq_v, ne_v, eq_ii, eq_bb, eq_nn, eq_in, eq_ni, iv_n_list, iv_n_tuple, iv_n_bool, iv_n_str, iv_n_int, okt_n, iv_b_list, iv_b_tuple, iv_b_bool, iv_b_str, iv_b_int, okt_b, iv_i_list, iv_i_tuple, iv_i_bool, iv_i_str, iv_i_int, okt_i, iv_s_list, iv_s_tuple, iv_s_bool, iv_s_str, iv_s_int, okt_s, iv_t_list, iv_t_tuple, iv_t_bool, iv_t_str, iv_t_int, okt_t, iv_r_list, iv_r_tuple, iv_r_bool, iv_r_str, iv_r_int, tru_b, tru_i, tru_n, tru_t, Option.map_some, Option.map_none, List.map_cons, List.map_nil, List.length_cons, List.length_nil, List.set_cons_zero, List.set_cons_succ, List.cons_append, List.nil_append, List.replicate, Nat.reduceAdd, Nat.reduceSub, Nat.reduceLeDiff, true_and, and_true, decide_eq_true_eq, reduceIte, Bool.false_eq_true, Bool.not_true, Bool.not_false, decide_true, decide_false]
    refine rings_lc (L := L) (B := B) (R := R) (by simp) hB rfl ?_
    rw [ins_r (inD_int (seq_of_lst get_new))]
    try simp -dsimp only [ringIn, at0, at1, at2, at3, at4, at5, at6, wp_fn, s_nil, s_brk, s_cnt, s_expr, s_ret, s_retN, s_if, s_asn, s_par, s_asg, g_nm, g_nil, g_cons, g_tupT, g_subW, w_v0, w_vS, w_c, w_op, w_un, w_anil, w_acons, w_tup, w_lst, w_call, w_callU, w_isi, w_meth, w_tru, w_bool, w_notS, w_andS, w_orS, w_ifx, w_andV, w_orV, w_notV, w_chain, wp_ok, wp_bad, wp_some, wp_none, wp_liftif, wp_if, asB_b, wp_noex, add_ii, sub_ii, mul_ii, fdiv_ii, mod_ii, pow_ii, neg_i, cmp_ii, lt_ii, le_ii, gt_ii, ge_ii, le_cc, muls_ii, muls_si, ins_cs, iadd_ii, isub_ii, w_onone, w_osome, w_sl, sl_s, sl_t, s_aug, eq_ss, len_s, ix_s, add_ss, str_s, tuple_t, list_t, is_n, not_n, non_n, non_i, non_b, non_s, non_t, non_r, abs_i, max_ii, min_ii, int_i, int_b, gcd_ii, len_t, ix_t, eq_v, ne_v, eq_ii, eq_bb, eq_nn, eq_in, eq_ni, iv_n_list, iv_n_tuple, iv_n_bool, iv_n_str, iv_n_int, okt_n, iv_b_list, iv_b_tuple, iv_b_bool, iv_b_str, iv_b_int, okt_b, iv_i_list, iv_i_tuple, iv_i_bool, iv_i_str, iv_i_int, okt_i, iv_s_list, iv_s_tuple, iv_s_bool, iv_s_str, iv_s_int, okt_s, iv_t_list, iv_t_tuple, iv_t_bool, iv_t_str, iv_t_int, okt_t, iv_r_list, iv_r_tuple, iv_r_bool, iv_r_str, iv_r_int, tru_b, tru_i, tru_n, tru_t, Option.map_some, Option.map_none, List.map_cons, List.map_nil, List.length_cons, List.length_nil, List.set_cons_zero, List.set_cons_succ, List.cons_append, List.nil_append, List.replicate, Nat.reduceAdd, Nat.reduceSub, Nat.reduceLeDiff, true_and, and_true, decide_eq_true_eq, reduceIte, Bool.false_eq_true, Bool.not_true, Bool.not_false, decide_true, decide_false]
    exact Ap.one
  | non => try simp -dsimp only [w_tis, tyName, ringIn, at0, at1, at2, at3, at4, at5, at6, wp_fn, s_nil, s_brk, s_cnt, s_expr, s_ret, s_retN, s_if, s_asn, s_par, s_asg, g_nm, g_nil, g_cons, g_tupT, g_subW, w_v0, w_vS, w_c, w_op, w_un, w_anil, w_acons, w_tup, w_lst, w_call, w_callU, w_isi, w_meth, w_tru, w_bool, w_notS, w_andS, w_orS, w_ifx, w_andV, w_orV, w_notV, w_chain, wp_ok, wp_bad, wp_some, wp_none, wp_liftif, wp_if, asB_b, wp_noex, add_ii, sub_ii, mul_ii, fdiv_ii, mod_ii, pow_ii, neg_i, cmp_ii, lt_ii, le_ii, gt_ii, ge_ii, le_cc, muls_ii, muls_si, ins_cs, iadd_ii, isub_ii, w_onone, w_osome, w_sl, sl_s, sl_t, s_aug, eq_ss, len_s, ix_s, add_ss, str_s, tuple_t, list_t, is_n, not_n, non_n, non_i, non_b, non_s, non_t, non_r, abs_i, max_ii, min_ii, int_i, int_b, gcd_ii, len_t, ix_t, eq_v, ne_v, eq_ii, eq_bb, eq_nn, eq_in, eq_ni, iv_n_list, iv_n_tuple, iv_n_bool, iv_n_str, iv_n_int, okt_n, iv_b_list, iv_b_tuple, iv_b_bool, iv_b_str, iv_b_int, okt_b, iv_i_list, iv_i_tuple, iv_i_bool, iv_i_str, iv_i_int, okt_i, iv_s_list, iv_s_tuple, iv_s_bool, iv_s_str, iv_s_int, okt_s, iv_t_list, iv_t_tuple, iv_t_bool, iv_t_str, iv_t_int, okt_t, iv_r_list, iv_r_tuple, iv_r_bool, iv_r_str, iv_r_int, tru_b, tru_i, tru_n, tru_t, Option.map_some, Option.map_none, List.map_cons, List.map_nil, List.length_cons, List.length_nil, List.set_cons_zero, List.set_cons_succ, List.cons_append, List.nil_append, List.replicate, Nat.reduceAdd, Nat.reduceSub, Nat.reduceLeDiff, true_and, and_true, decide_eq_true_eq, reduceIte, Bool.false_eq_true, Bool.not_true, Bool.not_false, decide_true, decide_false]; try exact Ap.refl
  | bl b => try simp -dsimp only [w_tis, tyName, ringIn, at0, at1, at2, at3, at4, at5, at6, wp_fn, s_nil, s_brk, s_cnt, s_expr, s_ret, s_retN, s_if, s_asn, s_par, s_asg, g_nm, g_nil, g_cons, g_tupT, g_subW, w_v0, w_vS, w_c, w_op, w_un, w_anil, w_acons, w_tup, w_lst, w_call, w_callU, w_isi, w_meth, w_tru, w_bool, w_notS, w_andS, w_orS, w_ifx, w_andV, w_orV, w_notV, w_chain, wp_ok, wp_bad, wp_some, wp_none, wp_liftif, wp_if, asB_b, wp_noex, add_ii, sub_ii, mul_ii, fdiv_ii, mod_ii, pow_ii, neg_i, cmp_ii, lt_ii, le_ii, gt_ii, ge_ii, le_cc, muls_ii, muls_si, ins_cs, iadd_ii, isub_ii, w_onone, w_osome, w_sl, sl_s, sl_t, s_aug, eq_ss, len_s, ix_s, add_ss, str_s, tuple_t, list_t, is_n, not_n, non_n, non_i, non_b, non_s, non_t, non_r, abs_i, max_ii, min_ii, int_i, int_b, gcd_ii, len_t, ix_t, eq_v, ne_v, eq_ii, eq_bb, eq_nn, eq_in, eq_ni, iv_n_list, iv_n_tuple, iv_n_bool, iv_n_str, iv_n_int, okt_n, iv_b_list, iv_b_tuple, iv_b_bool, iv_b_str, iv_b_int, okt_b, iv_i_list, iv_i_tuple, iv_i_bool, iv_i_str, iv_i_int, okt_i, iv_s_list, iv_s_tuple, iv_s_bool, iv_s_str, iv_s_int, okt_s, iv_t_list, iv_t_tuple, iv_t_bool, iv_t_str, iv_t_int, okt_t, iv_r_list, iv_r_tuple, iv_r_bool, iv_r_str, iv_r_int, tru_b, tru_i, tru_n, tru_t, Option.map_some, Option.map_none, List.map_cons, List.map_nil, List.length_cons, List.length_nil, List.set_cons_zero, List.set_cons_succ, List.cons_append, List.nil_append, List.replicate, Nat.reduceAdd, Nat.reduceSub, Nat.reduceLeDiff, true_and, and_true, decide_eq_true_eq, reduceIte, Bool.false_eq_true, Bool.not_true, Bool.not_false, decide_true, decide_false]; try exact Ap.refl
  | str s => try simp -dsimp only [w_tis, tyName, ringIn, at0, at1, at2, at3, at4, at5, at6, wp_fn, s_nil, s_brk, s_cnt, s_expr, s_ret, s_retN, s_if, s_asn, s_par, s_asg, g_nm, g_nil, g_cons, g_tupT, g_subW, w_v0, w_vS, w_c, w_op, w_un, w_anil, w_acons, w_tup, w_lst, w_call, w_callU, w_isi, w_meth, w_tru, w_bool, w_notS, w_andS, w_orS, w_ifx, w_andV, w_orV, w_notV, w_chain, wp_ok, wp_bad, wp_some, wp_none, wp_liftif, wp_if, asB_b, wp_noex, add_ii, sub_ii, mul_ii, fdiv_ii, mod_ii, pow_ii, neg_i, cmp_ii, lt_ii, le_ii, gt_ii, ge_ii, le_cc, muls_ii, muls_si, ins_cs, iadd_ii, isub_ii, w_onone, w_osome, w_sl, sl_s, sl_t, s_aug, eq_ss, len_s, ix_s, add_ss, str_s, tuple_t, list_t, is_n, not_n, non_n, non_i, non_b, non_s, non_t, non_r, abs_i, max_ii, min_ii, int_i, int_b, gcd_ii, len_t, ix_t, eq_v, ne_v, eq_ii, eq_bb, eq_nn, eq_in, eq_ni, iv_n_list, iv_n_tuple, iv_n_bool, iv_n_str, iv_n_int, okt_n, iv_b_list, iv_b_tuple, iv_b_bool, iv_b_str, iv_b_int, okt_b, iv_i_list, iv_i_tuple, iv_i_bool, iv_i_str, iv_i_int, okt_i, iv_s_list, iv_s_tuple, iv_s_bool, iv_s_str, iv_s_int, okt_s, iv_t_list, iv_t_tuple, iv_t_bool, iv_t_str, iv_t_int, okt_t, iv_r_list, iv_r_tuple, iv_r_bool, iv_r_str, iv_r_int, tru_b, tru_i, tru_n, tru_t, Option.map_some, Option.map_none, List.map_cons, List.map_nil, List.length_cons, List.length_nil, List.set_cons_zero, List.set_cons_succ, List.cons_append, List.nil_append, List.replicate, Nat.reduceAdd, Nat.reduceSub, Nat.reduceLeDiff, true_and, and_true, decide_eq_true_eq, reduceIte, Bool.false_eq_true, Bool.not_true, Bool.not_false, decide_true, decide_false]; try exact Ap.refl
  | tup xs => try simp -dsimp only [w_tis, tyName, ringIn, at0, at1, at2, at3, at4, at5, at6, wp_fn, s_nil, s_brk, s_cnt, s_expr, s_ret, s_retN, s_if, s_asn, s_par, s_asg, g_nm, g_nil, g_cons, g_tupT, g_subW, w_v0, w_vS, w_c, w_op, w_un, w_anil, w_acons, w_tup, w_lst, w_call, w_callU, w_isi, w_meth, w_tru, w_bool, w_notS, w_andS, w_orS, w_ifx, w_andV, w_orV, w_notV, w_chain, wp_ok, wp_bad, wp_some, wp_none, wp_liftif, wp_if, asB_b, wp_noex, add_ii, sub_ii, mul_ii, fdiv_ii, mod_ii, pow_ii, neg_i, cmp_ii, lt_ii, le_ii, gt_ii, ge_ii, le_cc, muls_ii, muls_si, ins_cs, iadd_ii, isub_ii, w_onone, w_osome, w_sl, sl_s, sl_t, s_aug, eq_ss, len_s, ix_s, add_ss, str_s, tuple_t, list_t, is_n, not_n, non_n, non_i, non_b, non_s, non_t, non_r, abs_i, max_ii, min_ii, int_i, int_b, gcd_ii, len_t, ix_t, eq_v, ne_v, eq_ii, eq_bb, eq_nn, eq_in, eq_ni, iv_n_list, iv_n_tuple, iv_n_bool, iv_n_str, iv_n_int, okt_n, iv_b_list, iv_b_tuple, iv_b_bool, iv_b_str, iv_b_int, okt_b, iv_i_list, iv_i_tuple, iv_i_bool, iv_i_str, iv_i_int, okt_i, iv_s_list, iv_s_tuple, iv_s_bool, iv_s_str, iv_s_int, okt_s, iv_t_list, iv_t_tuple, iv_t_bool, iv_t_str, iv_t_int, okt_t, iv_r_list, iv_r_tuple, iv_r_bool, iv_r_str, iv_r_int, tru_b, tru_i, tru_n, tru_t, Option.map_some, Option.map_none, List.map_cons, List.map_nil, List.length_cons, List.length_nil, List.set_cons_zero, List.set_cons_succ, List.cons_append, List.nil_append, List.replicate, Nat.reduceAdd, Nat.reduceSub, Nat.reduceLeDiff, true_and, and_true, decide_eq_true_eq, reduceIte, Bool.false_eq_true, Bool.not_true, Bool.not_false, decide_true, decide_false]; try exact Ap.refl
theorem wp_mono2 {α : Type} {r : R α} {Q Q' : α → MH → Prop} {E E' : EX} (h : WP r Q E) (i : ∀ x m, Q x m → Q' x m) (j : ∀ c fs m, E c fs m → E' c fs m) : WP r Q' E' := by
  unfold WP at h ⊢
  cases r with
  | ok x m => exact i x m h
  | ex c fs m => exact j c fs m h
  | bad => exact h
def tRace : List Nat := [114, 97, 99, 101]
theorem frm_int {v : PV} {lo hi : Int} (h : frm v lo hi = true) : ∃ i, v = .int i ∧ lo ≤ i ∧ i ≤ hi := by
  unfold frm at h
  split at h
  · rename_i i
    exact ⟨i, rfl, by simpa using h⟩
  · cases h
theorem nr_int (i : Int) : NoRef (.int i) := fun n e => by cases e
def tLoft : List Nat := [108, 111, 102, 116]
def tBegin : List Nat := [98, 101, 103, 105, 110]
def tEnd : List Nat := [101, 110, 100]
def tShown : List Nat := [115, 104, 111, 119, 110]
def num (v : PV) : Int := match v with | .int i => i | _ => 0
def dueC (nr nl : Nat) (v0 v1 v2 v3 v4 : PV) : Option (List Nat) :=
  if frm v0 0 (nr - 1) = true then (if frm v1 0 (nl - 1) = true then (if frm v2 0 9999 = true then (if frm v3 (num v2 + 1) 9999 = true then (if frm v4 (num v2 + 1) 9999 = true then none else some tShown) else some tEnd) else some tBegin) else some tLoft) else some tRace
section
variable {m : MH} {L : List Loft} {B : List Bird} {R : List Race} {v0 v1 v2 v3 v4 : PV}
theorem ckc_ok (h0 : NoRef v0) (h1 : NoRef v1) (h2 : NoRef v2) (h3 : NoRef v3) (h4 : NoRef v4) :
    WP (f_check_clock [clubPV L B R, .tup [v0, v1, v2, v3, v4]] m) (fun x m' => x = .non ∧ dueC R.length L.length v0 v1 v2 v3 v4 = none ∧ m' = m) (fun c fs m' => c = "BadClock" ∧ ∃ t, fs = [.str t] ∧ dueC R.length L.length v0 v1 v2 v3 v4 = some t ∧ m' = m) := by
  unfold f_check_clock b_check_clock clubPV at *
  walk_at "w1"
  rw [s_seq]
  walk_at "w0"
  rw [s_seq]
  walk_at "w0"
  rw [s_seq]
  walk_at "w0"
  rw [List.length_map]
  refine (isfrom_ok h0).mono ?_
  rintro _ m ⟨rfl, rfl⟩
  by_cases c0 : frm v0 0 (R.length - 1) = true
  · rw [c0]
    walk_at "w0"
    rw [s_seq]
    walk_at "w0"
    rw [List.length_map]
    refine (isfrom_ok h1).mono ?_
    rintro _ m ⟨rfl, rfl⟩
    by_cases c1 : frm v1 0 (L.length - 1) = true
    · rw [c1]
      walk_at "w0"
      rw [s_seq]
      walk_at "w0"
      refine (isfrom_ok h2).mono ?_
      rintro _ m ⟨rfl, rfl⟩
      by_cases c2 : frm v2 0 9999 = true
      · rw [c2]
        obtain ⟨i, rfl, i0, i1⟩ := frm_int c2
        walk_at "w0"
        rw [s_seq]
        walk_at "w0"
        refine (isfrom_ok h3).mono ?_
        rintro _ m ⟨rfl, rfl⟩
        by_cases c3 : frm v3 (i + 1) 9999 = true
        · rw [c3]
          walk_at "w0"
          refine (isfrom_ok h4).mono ?_
          rintro _ m ⟨rfl, rfl⟩
          by_cases c4 : frm v4 (i + 1) 9999 = true
          · rw [c4]
            walk_at "w0"
            unfold dueC num
            rw [if_pos c0, if_pos c1, if_pos c2]
            dsimp only
            rw [if_pos c3, if_pos c4]
          · have c4' : frm v4 (i + 1) 9999 = false := by simpa using c4
            rw [c4']
            walk_at "w0"
            rw [s_raise]
            walk_at "w0"
            refine ⟨tShown, rfl, ?_⟩
            unfold dueC num
            rw [if_pos c0, if_pos c1, if_pos c2]
            dsimp only
            rw [if_pos c3, if_neg c4]
        · have c3' : frm v3 (i + 1) 9999 = false := by simpa using c3
          rw [c3']
          walk_at "w0"
          rw [s_raise]
          walk_at "w0"
          refine ⟨tEnd, rfl, ?_⟩
          unfold dueC num
          rw [if_pos c0, if_pos c1, if_pos c2]
          dsimp only
          rw [if_neg c3]
      · have c2' : frm v2 0 9999 = false := by simpa using c2
        rw [c2']
        walk_at "w0"
        rw [s_raise]
        walk_at "w0"
        refine ⟨tBegin, rfl, ?_⟩
        unfold dueC
        rw [if_pos c0, if_pos c1, if_neg c2]
    · have c1' : frm v1 0 (L.length - 1) = false := by simpa using c1
      rw [c1']
      walk_at "w0"
      rw [s_raise]
      walk_at "w0"
      refine ⟨tLoft, rfl, ?_⟩
      unfold dueC
      rw [if_pos c0, if_neg c1]
  · have c0' : frm v0 0 (R.length - 1) = false := by simpa using c0
    rw [c0']
    walk_at "w0"
    rw [s_raise]
    walk_at "w0"
    refine ⟨tRace, rfl, ?_⟩
    unfold dueC
    rw [if_neg c0]
end
def dg (c : Nat) : Prop := 48 ≤ c ∧ c ≤ 57
def lo (c : Nat) : Prop := 97 ≤ c ∧ c ≤ 122
instance (c : Nat) : Decidable (dg c) := by unfold dg; infer_instance
instance (c : Nat) : Decidable (lo c) := by unfold lo; infer_instance
def NoH (p : Nat → Prop) (s : List Nat) : Prop := ∀ c r, s = c :: r → ¬ p c
def isnum (u : List Nat) : Bool := decide (u = [48]) || (decide (1 ≤ u.length ∧ u.length ≤ 4) && decide (u.head? ≠ some 48))
def sWord : List Nat := [119, 111, 114, 100]
def sBad : List Nat := [98, 97, 100]
def sNum : List Nat := [110, 117, 109, 98, 101, 114]
inductive Tk : List Nat → List Nat → List Nat → Prop
  | word {t s : List Nat} (h : t ≠ []) (a : ∀ c ∈ t, lo c) (n : NoH lo s) : Tk (if t.length ≤ 8 then sWord else sBad) t s
  | dig {t s : List Nat} (h : t ≠ []) (a : ∀ c ∈ t, dg c) (n : NoH dg s) : Tk (if isnum t = true then sNum else sBad) t s
  | neg {u s : List Nat} (a : ∀ c ∈ u, dg c) (n : NoH dg s) (h : isnum u = true) (h0 : u ≠ [48]) : Tk sNum (45 :: u) s
  | sgn {c : Nat} {s : List Nat} (h1 : ¬ dg c) (h2 : ¬ lo c) (h3 : c ≠ 32) (h4 : c ≠ 45) : Tk sBad [c] s
  | mns {u s : List Nat} (a : ∀ c ∈ u, dg c) (n : NoH dg s) (h : ¬ (isnum u = true ∧ u ≠ [48])) : Tk sBad [45] (u ++ s)
inductive Rd : List Nat → List (List Nat × List Nat) → List Nat → Prop
  | nil {s : List Nat} : Rd s [] s
  | spc {s s' : List Nat} {ds : List (List Nat × List Nat)} (h : Rd s ds s') : Rd (32 :: s) ds s'
  | tok {k t s s' : List Nat} {ds : List (List Nat × List Nat)} (h : Tk k t s) (r : Rd s ds s') : Rd (t ++ s) ((k, t) :: ds) s'
theorem Rd.trans {s s' s'' : List Nat} {ds es : List (List Nat × List Nat)} (h : Rd s ds s') (h2 : Rd s' es s'') : Rd s (ds ++ es) s'' := by
  induction h with
  | nil => exact h2
  | spc h ih => exact .spc (ih h2)
  | tok h r ih => exact .tok h (ih h2)
theorem Tk.ne {k t s : List Nat} (h : Tk k t s) : ∃ c r, t = c :: r ∧ c ≠ 32 := by
  cases h with
  | word h a n => cases t with
    | nil => exact absurd rfl h
    | cons c r => exact ⟨c, r, rfl, fun e => by have := a c List.mem_cons_self; rw [e] at this; unfold lo at this; omega⟩
  | dig h a n => cases t with
    | nil => exact absurd rfl h
    | cons c r => exact ⟨c, r, rfl, fun e => by have := a c List.mem_cons_self; rw [e] at this; unfold dg at this; omega⟩
  | neg a n h h0 => exact ⟨45, _, rfl, by decide⟩
  | sgn h1 h2 h3 h4 => exact ⟨_, _, rfl, h3⟩
  | mns a n h => exact ⟨45, _, rfl, by decide⟩
theorem atI_mid {pre r : List Nat} {c : Nat} : atI (pre ++ c :: r) ((pre.length : Nat) : Int) = some c := by
  rw [atI_nn (by omega) (by simp; omega), Int.toNat_natCast]; simp
theorem run_ok {m : MH} {pre u s : List Nat} {a b : Nat} (hu : ∀ c ∈ u, a ≤ c ∧ c ≤ b) (hs : NoH (fun c => a ≤ c ∧ c ≤ b) s) (hl : (pre ++ (u ++ s)).length ≤ 10000) :
    WP (f_run_end [.str (pre ++ (u ++ s)), .int (pre.length : Nat), .str [a], .str [b]] m) (fun x m' => x = .int ((pre.length + u.length : Nat) : Int) ∧ m' = m) NoE := by
  unfold f_run_end b_run_end
  walk_at "w1"
  walk_at "sq"
  rw [s_seq]
  refine s_while u.length (by simp at hl; omega) (fun k l m' => ∃ j : Nat, j + k = u.length ∧ l = [some (.str (pre ++ (u ++ s))), some (.int (pre.length : Nat)), some (.str [a]), some (.str [b]), some (.int ((pre.length + j : Nat) : Int))] ∧ m' = m) ⟨0, by omega, rfl, rfl⟩ ?_
  rintro k l m' ⟨j, hj, rfl, rfl⟩
  have hL : (pre ++ (u ++ s)).length ≤ 16777216 := by omega
  have hix : atI (pre ++ (u ++ s)) ((pre.length + j : Nat) : Int) = (u ++ s)[j]? := by
    by_cases h : j < (u ++ s).length
    · rw [atI_nn (by omega) (by simp at h ⊢; omega), Int.toNat_natCast, List.getElem?_append_right (by omega)]; congr 1; omega
    · unfold atI ixN
      rw [if_pos (by omega), if_neg (by simp at h ⊢; omega), List.getElem?_eq_none (by omega)]
      rfl
  unfold run_end_l1
  walk_at "w1"
  rw [if_pos hL]
  walk_at "w1"
  by_cases hk : k = 0
  · subst hk
    have hju : j = u.length := by omega
    subst hju
    by_cases hlt : ((pre.length + u.length : Nat) : Int) < ((pre ++ (u ++ s)).length : Nat)
    · rw [if_pos hlt, if_pos hL, hix]
      cases s with
      | nil => simp at hlt
      | cons c r =>
        have hc := hs c r rfl
        rw [show (u ++ c :: r)[u.length]? = some c by simp]
        walk_at "w1"
        by_cases h1 : a ≤ c
        · rw [if_pos h1]
          walk_at "w1"
          have h2 : ¬ c ≤ b := fun h => hc ⟨h1, h⟩
          rw [if_neg h2]
          trivial
        · rw [if_neg h1]
          trivial
    · rw [if_neg hlt]
  · have hlt : ((pre.length + j : Nat) : Int) < ((pre ++ (u ++ s)).length : Nat) := by simp; omega
    have hju : j < u.length := by omega
    have hc := hu u[j] (List.getElem_mem hju)
    rw [if_pos hlt, if_pos hL, hix, List.getElem?_append_left hju, List.getElem?_eq_getElem hju]
    walk_at "w1"
    rw [if_pos hc.1]
    walk_at "w1"
    rw [if_pos hc.2]
    exact ⟨by omega, j + 1, by omega, by simp only [List.cons.injEq, Option.some.injEq, PV.int.injEq, true_and, and_true]; omega⟩
theorem isn_ok {m : MH} {u : List Nat} (hl : u.length ≤ 10000) : WP (f_is_number [.str u] m) (fun x m' => x = .bl (isnum u) ∧ m' = m) NoE := by
  unfold f_is_number b_is_number isnum
  walk_at "w1"
  walk_at "sq"
  by_cases h : u = [48]
  · rw [if_pos h, decide_eq_true h]
    walk_at "w1"
    rfl
  · rw [if_neg h, decide_eq_false h]
    have hL : u.length ≤ 16777216 := by omega
    walk_at "w1"
    rw [if_pos hL]
    walk_at "w1"
    by_cases h1 : 1 ≤ u.length
    · have h1' : (1 : Int) ≤ (u.length : Nat) := by omega
      rw [if_pos h1']
      walk_at "w1"
      by_cases h2 : u.length ≤ 4
      · have h2' : ((u.length : Nat) : Int) ≤ 4 := by omega
        rw [if_pos h2', if_pos hL]
        cases u with
        | nil => simp at h1
        | cons c r =>
          rw [show atI (c :: r) 0 = some c from atI_nat (xs := c :: r) (j := 0) (v := c) rfl]
          walk_at "w1"
          simp_all
      · have h2' : ¬ ((u.length : Nat) : Int) ≤ 4 := by omega
        rw [if_neg h2']
        simp [h2]
    · have h1' : ¬ (1 : Int) ≤ (u.length : Nat) := by omega
      rw [if_neg h1']
      simp [h1]
theorem cut_to {line pre t s : List Nat} {i j : Int} (e : line = pre ++ (t ++ s)) (hi : i = (pre.length : Nat)) (hj : j = ((pre.length + t.length : Nat) : Int)) : cut line (some i) (some j) = t := by
  subst e hi hj
  unfold cut
  rw [HT.sIx_nat, HT.sIx_nat, Nat.min_eq_left (by simp), Nat.min_eq_left (by simp), List.drop_left, Nat.add_sub_cancel_left, List.take_left]
theorem run_to {m : MH} {line pre u s : List Nat} {i : Int} {a b : Nat} (e : line = pre ++ (u ++ s)) (hi : i = (pre.length : Nat)) (hu : ∀ c ∈ u, a ≤ c ∧ c ≤ b) (hs : NoH (fun c => a ≤ c ∧ c ≤ b) s) (hl : line.length ≤ 10000) :
    WP (f_run_end [.str line, .int i, .str [a], .str [b]] m) (fun x m' => x = .int ((pre.length + u.length : Nat) : Int) ∧ m' = m) NoE := by
  subst e hi
  exact run_ok hu hs hl
theorem noH_cons {p : Nat → Prop} {c : Nat} {r : List Nat} (h : ¬ p c) : NoH p (c :: r) := fun _ _ e => by cases e; exact h
theorem noH_app {p : Nat → Prop} {t s : List Nat} (h0 : t ≠ []) (h : ∀ c ∈ t, ¬ p c) : NoH p (t ++ s) := by
  cases t with
  | nil => exact absurd rfl h0
  | cons c r => exact noH_cons (h c List.mem_cons_self)
theorem no_mem {p : Nat → Prop} : ∀ c ∈ ([] : List Nat), p c := fun _ h => by cases h
theorem tokat_ok {m : MH} {pre k t s line : List Nat} {i : Int} (h : Tk k t s) (e : line = pre ++ (t ++ s)) (hi : i = (pre.length : Nat)) (hl : line.length ≤ 10000) :
    WP (f_token_at [.str line, .int i] m) (fun x m' => x = .tup [.str k, .int ((pre.length + t.length : Nat) : Int)] ∧ m' = m) NoE := by
  have hL : line.length ≤ 16777216 := by omega
  unfold f_token_at b_token_at
  walk_at "w1"
  have ht : 0 < t.length ∧ t.length ≤ 10000 := by
    obtain ⟨c, r, e1, _⟩ := h.ne
    rw [e] at hl
    subst e1
    simp at hl ⊢
    omega
  walk_at "sq"
  cases h with
  | word h a n =>
    refine (run_to (pre := pre) (u := t) (s := s) e hi a n hl).mono ?_
    rintro _ _ ⟨rfl, rfl⟩
    walk_at "w1"
    walk_at "sq"
    rw [if_pos (by omega)]
    walk_at "w1"
    by_cases h8 : t.length ≤ 8
    · rw [if_pos (by omega), if_pos h8]
      walk_at "w1"
      rfl
    · rw [if_neg (by omega), if_neg h8]
      walk_at "w1"
      rfl
  | dig h a n =>
    refine (run_to (pre := pre) (u := []) (s := t ++ s) e hi no_mem (noH_app h fun c hc q => by have := a c hc; unfold dg at this; omega) hl).mono ?_
    rintro _ _ ⟨rfl, rfl⟩
    walk_at "w1"
    walk_at "sq"
    rw [if_neg (by simp; omega)]
    walk_at "sq"
    refine (run_to (pre := pre) (u := t) (s := s) e hi a n hl).mono ?_
    rintro _ _ ⟨rfl, rfl⟩
    walk_at "w1"
    walk_at "sq"
    rw [if_pos (by omega)]
    walk_at "w1"
    rw [if_pos hL, cut_to e hi rfl]
    walk_at "w1"
    refine (isn_ok ht.2).mono ?_
    rintro _ _ ⟨rfl, rfl⟩
    walk_at "w1"
    by_cases h8 : isnum t = true
    · rw [if_pos h8, if_pos h8]
      walk_at "w1"
      rfl
    · rw [if_neg h8, if_neg h8]
      walk_at "w1"
      rfl
  | @neg u s a n h h0 =>
    have e0 : line = pre ++ 45 :: (u ++ s) := e
    have e2 : line = (pre ++ [45]) ++ (u ++ s) := by rw [e]; simp
    have l2 : (pre ++ [45]).length = pre.length + 1 := by simp
    refine (run_to (pre := pre) (u := []) (s := 45 :: (u ++ s)) e0 hi no_mem (noH_cons (by decide)) hl).mono ?_
    rintro _ _ ⟨rfl, rfl⟩
    walk_at "w1"
    walk_at "sq"
    rw [if_neg (by simp; omega)]
    walk_at "sq"
    refine (run_to (pre := pre) (u := []) (s := 45 :: (u ++ s)) e0 hi no_mem (noH_cons (by decide)) hl).mono ?_
    rintro _ _ ⟨rfl, rfl⟩
    walk_at "w1"
    walk_at "sq"
    rw [if_neg (by simp; omega)]
    walk_at "sq"
    rw [if_pos hL, e0, hi, atI_mid, ← e0, ← hi]
    walk_at "w1"
    walk_at "sq"
    refine (run_to (pre := pre ++ [45]) (u := u) (s := s) e2 (by rw [l2, hi]; rfl) a n hl).mono ?_
    rintro _ _ ⟨rfl, rfl⟩
    walk_at "w1"
    walk_at "sq"
    rw [if_pos hL, cut_to e2 (by rw [l2, hi]; rfl) rfl]
    walk_at "w1"
    refine (isn_ok (by simp at ht; omega)).mono ?_
    rintro _ _ ⟨rfl, rfl⟩
    walk_at "w1"
    rw [if_pos h]
    walk_at "w1"
    rw [if_pos (by simp [h0])]
    walk_at "w1"
    simp [sNum]
    omega
  | @sgn c s h1 h2 h3 h4 =>
    have e0 : line = pre ++ c :: s := e
    refine (run_to (pre := pre) (u := []) (s := c :: s) e0 hi no_mem (noH_cons h2) hl).mono ?_
    rintro _ _ ⟨rfl, rfl⟩
    walk_at "w1"
    walk_at "sq"
    rw [if_neg (by simp; omega)]
    walk_at "sq"
    refine (run_to (pre := pre) (u := []) (s := c :: s) e0 hi no_mem (noH_cons h1) hl).mono ?_
    rintro _ _ ⟨rfl, rfl⟩
    walk_at "w1"
    walk_at "sq"
    rw [if_neg (by simp; omega)]
    walk_at "sq"
    rw [if_pos hL, e0, hi, atI_mid, ← e0, ← hi]
    walk_at "w1"
    rw [if_neg (by simp [h4])]
    walk_at "w1"
    simp [sBad]
    omega
  | @mns u s a n h =>
    have e0 : line = pre ++ 45 :: (u ++ s) := e
    have e2 : line = (pre ++ [45]) ++ (u ++ s) := by rw [e]; simp
    have l2 : (pre ++ [45]).length = pre.length + 1 := by simp
    have hu : u.length ≤ 10000 := by rw [e2] at hl; simp at hl; omega
    refine (run_to (pre := pre) (u := []) (s := 45 :: (u ++ s)) e0 hi no_mem (noH_cons (by decide)) hl).mono ?_
    rintro _ _ ⟨rfl, rfl⟩
    walk_at "w1"
    walk_at "sq"
    rw [if_neg (by simp; omega)]
    walk_at "sq"
    refine (run_to (pre := pre) (u := []) (s := 45 :: (u ++ s)) e0 hi no_mem (noH_cons (by decide)) hl).mono ?_
    rintro _ _ ⟨rfl, rfl⟩
    walk_at "w1"
    walk_at "sq"
    rw [if_neg (by simp; omega)]
    walk_at "sq"
    rw [if_pos hL, e0, hi, atI_mid, ← e0, ← hi]
    walk_at "w1"
    walk_at "sq"
    refine (run_to (pre := pre ++ [45]) (u := u) (s := s) e2 (by rw [l2, hi]; rfl) a n hl).mono ?_
    rintro _ _ ⟨rfl, rfl⟩
    walk_at "w1"
    walk_at "sq"
    rw [if_pos hL, cut_to e2 (by rw [l2, hi]; rfl) rfl]
    walk_at "w1"
    refine (isn_ok hu).mono ?_
    rintro _ _ ⟨rfl, rfl⟩
    walk_at "w1"
    have fin : PV.tup [.str [98, 97, 100], .int (i + 1)] = .tup [.str sBad, .int ((pre.length + [45].length : Nat) : Int)] := by
      simp [sBad]; omega
    by_cases h5 : isnum u = true
    · rw [if_pos h5]
      walk_at "w1"
      have h6 : u = [48] := by
        by_cases h6 : u = [48]
        · exact h6
        · exact absurd ⟨h5, h6⟩ h
      rw [if_neg (by simp [h6])]
      walk_at "w1"
      exact fin
    · rw [if_neg h5]
      walk_at "w1"
      exact fin
def tokPV (p : List Nat × List Nat) : PV := .tup [.str p.1, .str p.2]
theorem append_tok {m : MH} {xs : List PV} {v : PV} (h : xs.length < 16777216) : appendv (.ref m.length) [v] (m ++ [.lst xs]) = some (.non, m ++ [.lst (xs ++ [v])]) := by
  unfold appendv
  dsimp only
  rw [lst_of get_new]
  dsimp only
  rw [if_pos h, set_new]
theorem tokens_ok {m : MH} {line : List Nat} {ds : List (List Nat × List Nat)} (h : Rd line ds []) (hl : line.length ≤ 10000) :
    WP (f_tokens [.str line] m) (fun x m' => x = .ref m.length ∧ m' = m ++ [.lst (ds.map tokPV)]) NoE := by
  have hL : line.length ≤ 16777216 := by omega
  unfold f_tokens b_tokens
  walk_at "w1"
  walk_at "sq"
  walk_at "sq"
  rw [s_seq]
  refine s_while line.length (by omega) (fun k l m' => ∃ pre rest done ds' x3 x4, line = pre ++ rest ∧ rest.length ≤ k ∧ Rd rest ds' [] ∧ done ++ ds' = ds ∧ done.length ≤ pre.length ∧
    l = [some (.str line), some (.ref m.length), some (.int (pre.length : Nat)), x3, x4] ∧ m' = m ++ [.lst (done.map tokPV)]) ⟨[], line, [], ds, none, none, rfl, Nat.le_refl _, h, rfl, Nat.le_refl _, rfl, rfl⟩ ?_
  rintro k l m' ⟨pre, rest, done, ds', x3, x4, e, hk, hr, hd, hdl, rfl, rfl⟩
  have hpl : pre.length + rest.length = line.length := by rw [e]; simp
  walk_at "w1"
  rw [if_pos hL]
  walk_at "w1"
  cases hr with
  | nil =>
    rw [if_neg (by simp at hpl; omega)]
    walk_at "w1"
    simp at hd
    rw [hd]
  | @spc s s' ds h =>
    have hpl' : pre.length + (s.length + 1) = line.length := by simpa using hpl
    rw [if_pos (by omega)]
    refine ⟨by simp at hk; omega, ?_⟩
    unfold tokens_l1
    walk_at "w1"
    rw [if_pos hL, e, atI_mid, ← e]
    walk_at "w1"
    exact ⟨pre ++ [32], s, done, _, x3, x4, by rw [e]; simp, by simp at hk; omega, h, hd, by simp; omega, by simp, rfl⟩
  | @tok k t s s' ds h r =>
    obtain ⟨c, t', et, hc⟩ := h.ne
    have htl : 0 < t.length := by rw [et]; simp
    have hpl' : pre.length + (t.length + s.length) = line.length := by simpa using hpl
    rw [if_pos (by omega)]
    refine ⟨by simp at hk; omega, ?_⟩
    unfold tokens_l1
    walk_at "w1"
    rw [if_pos hL]
    rw [show atI line ((pre.length : Nat) : Int) = some c by rw [e, et]; exact atI_mid]
    walk_at "w1"
    rw [if_neg (by simp [hc])]
    walk_at "sq"
    refine (tokat_ok h e rfl hl).mono ?_
    rintro _ _ ⟨rfl, rfl⟩
    walk_at "w1"
    walk_at "sq"
    refine ⟨isLst_new, ?_⟩
    rw [if_pos hL, cut_to e rfl rfl]
    walk_at "w1"
    rw [append_tok (by rw [List.length_map]; omega)]
    walk_at "w1"
    refine ⟨pre ++ t, s, done ++ [(k, t)], ds, _, _, by rw [e]; simp, by simp at hk; omega, r, by rw [← hd]; simp, by simp; omega, by simp; exact ⟨rfl, rfl⟩, by simp [tokPV]⟩
theorem lc_mapL {α : Type} {f g : α → PV} {l : SM.Loc} {m : MH} {i : Nat} {Q : PV → MH → Prop} {E : EX} {se body : SE} (hi : i < l.length)
    (h : WP (se l m) (fun x m1 => ∃ (n : Nat) (xs : List α), x = .ref n ∧ m1[n]? = some (.lst (xs.map f)) ∧ xs.length ≤ 10000 ∧ (∀ x ∈ xs, ∀ m2, WP (body ((l.set i none).set i (some (f x))) m2) (fun y m' => y = g x ∧ m' = m2) NoE) ∧
      ∀ m2, Gr m1 m2 → m2[m1.length]? = some (.lst (xs.map g)) → Q (.ref m1.length) m2) NoE) : WP (sLc (iSeq se) (gNm i) tYesS body [i] l m) Q E := by
  refine w_lcL (h.mono ?_)
  rintro _ m1 ⟨n, xs, rfl, hn, hl, hb, q⟩
  refine ⟨n, _, rfl, seq_of_lst hn, fun j acc m2 => acc = (xs.take j).map g ∧ Gr m1 m2, ⟨rfl, Gr.one⟩, ?_, ?_⟩
  · rintro j x acc m2 hx ha ⟨rfl, G⟩
    refine ⟨seq_of_lst (G.get _ _ hn), ?_⟩
    rw [List.getElem?_map] at hx
    cases es : xs[j]? with
    | none => rw [es] at hx; cases hx
    | some r =>
    rw [es] at hx
    cases hx
    have hj := (List.getElem?_eq_some_iff.mp es).1
    have et : xs.take (j + 1) = xs.take j ++ [r] := by rw [List.take_succ, es]; rfl
    simp only [wipeP]
    rw [g_nm, w_yes, if_pos rfl]
    refine (hb r (List.mem_of_getElem? es) m2).mono ?_
    rintro _ m2 ⟨rfl, rfl⟩
    exact ⟨ha, by rw [List.length_map, List.length_take]; omega, by rw [et, List.map_append]; rfl, G.set (Nat.le_refl _)⟩
  · rintro acc m2 ha ⟨rfl, G⟩
    rw [List.length_map, List.take_length] at ha
    exact ⟨seq_of_lst (G.get _ _ hn), q m2 G ha⟩
def kle (a b : List Int) : Bool := decide (a ≤ b)
def tupI (k : List Int) : PyData := .tuple (k.map .int)
theorem kle_data (x y : List Int) : PySem.W.dataLt (tupI x) (tupI y) = decide (x < y) := by
  unfold tupI
  rw [PySem.W.dataLt_tuple]
  exact PySem.W.dataLt_ints x y
theorem kle_eq (x y : List Int) : (!PySem.W.dataLt (tupI y) (tupI x)) = kle x y := by
  rw [kle_data]
  unfold kle
  by_cases h : y < x
  · have h' : ¬ x ≤ y := fun r => List.not_lt.mpr r h
    simp [h, h']
  · have h' : x ≤ y := List.not_lt.mp h
    simp [h, h']
theorem sortBy {α : Type} {m : MH} {pv : α → PV} {key : α → List Int} {xs : List α} (D : α → PyData) (h : ∀ x, D x = tupI (key x)) :
    (((xs.map fun x => (pv x, D x)).mergeSort (PySem.W.dataLe false (·.2))).map (·.1)) = (xs.mergeSort fun x y => kle (key x) (key y)).map pv := by
  rw [← List.map_mergeSort (r := fun x y => kle (key x) (key y)) (f := fun x => (pv x, D x)) ?_, List.map_map]
  · rfl
  · intro a _ b _
    show _ = !PySem.W.dataLt (D b) (D a)
    rw [h, h, kle_eq]
theorem sortedK_by {α : Type} {g : FS} {m : MH} {pv : α → PV} {key : α → List Int} {xs : List α} (h : ∀ x, dOf m (keyOf g m (pv x)) = tupI (key x)) : sortK g m (xs.map pv) = (xs.mergeSort fun x y => kle (key x) (key y)).map pv := by
  unfold sortK
  rw [List.map_map]
  exact sortBy (m := m) (fun x => dOf m (keyOf g m (pv x))) h
theorem sortOk_by {m : MH} {xs : List PV} (h : ∀ x ∈ xs, ∃ a b : Int, x = .tup [.int a, .int b]) : SortOk m xs := by
  have dat : ∀ d ∈ xs.map (dOf m), ∃ a b : Int, d = .tuple [.int a, .int b] := by
    intro d hd
    obtain ⟨x, hx, rfl⟩ := List.mem_map.mp hd
    obtain ⟨a, b, rfl⟩ := h x hx
    exact ⟨a, b, rfl⟩
  refine ⟨fun x hx => ?_, fun d hd d' hd' => ?_, .inl fun d hd => ?_, fun x hx => ?_⟩
  · obtain ⟨a, b, rfl⟩ := h x hx
    exact ⟨_, rfl⟩
  · obtain ⟨a, b, rfl⟩ := dat d hd
    obtain ⟨a', b', rfl⟩ := dat d' hd'
    rfl
  · obtain ⟨a, b, rfl⟩ := dat d hd
    exact ⟨_, _, rfl⟩
  · obtain ⟨a, b, rfl⟩ := h x hx
    show (PyData.tuple [.int a, .int b]).depth ≤ 60
    simp [PyData.depth, PyData.depthAll]
theorem cut_tl {xs : List PV} {i : Nat} (h : i ≤ xs.length) : cut xs (some ((i : Nat) : Int)) none = xs.drop i := by
  have e : HT.sIx xs.length 0 (some ((i : Nat) : Int)) = i := by
    simp only [HT.sIx]
    rw [if_neg (by omega)]
    omega
  unfold cut
  rw [e]
  have e2 : HT.sIx xs.length xs.length none = xs.length := by simp [HT.sIx]
  rw [e2]
  exact List.take_of_length_le (by simp)
def fldv (i : Nat) : PV → MH → OR
  | .ref n, m => match m[n]? with
    | some (.ins fs) => match fs[i]? with
      | some y => some (y, m)
      | none => none
    | _ => none
  | _, _ => none
theorem fld_un {i : Nat} {se : SE} : sFldE i se = sUn (fldv i) se := by
  funext l m
  unfold sFldE sUn
  cases se l m with
  | ok x m1 =>
    show (match x with | .ref n => _ | _ => _) = lift (fldv i x m1)
    cases x with
    | ref n =>
      unfold fldv
      dsimp only
      cases hm : m1[n]? with
      | none => rfl
      | some ob =>
        cases ob with
        | ins fs =>
          dsimp only
          cases fs[i]? with
          | none => rfl
          | some y => rfl
        | _ => rfl
    | _ => rfl
  | ex c fs m1 => rfl
  | bad => rfl
theorem w_fld {i : Nat} {se : SE} {l : SM.Loc} {m : MH} {Q : PV → MH → Prop} {E : EX} : WP (sFldE i se l m) Q E = WP (se l m) (fun x m1 => WP (lift (fldv i x m1)) Q E) E := by rw [fld_un, w_un]
theorem fld_r {i n : Nat} {m : MH} {fs : List PV} {y : PV} (h : m[n]? = some (.ins fs)) (g : fs[i]? = some y) : fldv i (.ref n) m = some (y, m) := by
  unfold fldv; dsimp only; rw [h]; dsimp only; rw [g]
theorem w_methB {n : Nat} {f : FS} {so : SE} {sa : SA} {l : SM.Loc} {m : MH} {Q : PV → MH → Prop} {E : EX} : WP (sMethB n f so sa l m) Q E = WP (so l m) (fun x m1 => isIns m1 x = true ∧ WP (sa l m1) (fun xs m2 => xs.length + 1 = n ∧ WP (f (x :: xs) m2) Q NoE) E) E := by
  unfold sMethB; rw [wp_bind]; refine wp_eq fun x m1 => ?_
  by_cases h : isIns m1 x = true
  · rw [if_pos h, wp_bind]
    simp only [h, true_and]
    refine wp_eq fun xs m2 => ?_
    by_cases h2 : xs.length + 1 = n
    · rw [if_pos h2, wp_noex]; simp [h2]
    · rw [if_neg h2]; simp [h2, wp_bad]
  · rw [if_neg h]; simp [h, wp_bad]
theorem isIns_r {n : Nat} {m : MH} {fs : List PV} (h : m[n]? = some (.ins fs)) : isIns m (.ref n) = true := by
  show (match m[n]? with | some (.ins _) => true | _ => false) = true
  rw [h]
theorem w_make {n : Nat} {f : FS} {sa : SA} {l : SM.Loc} {m : MH} {Q : PV → MH → Prop} {E : EX} (h : WP (sa l m) (fun xs m1 => xs.length + 1 = n ∧ WP (f (.ref m1.length :: xs) (m1 ++ [.ins []])) (fun y m2 => y = .non ∧ Q (.ref m1.length) m2) NoE) NoE) : WP (sMake n f sa l m) Q E := by
  obtain ⟨xs, m1, e1, hl, h⟩ := h.run
  obtain ⟨y, m2, e2, rfl, q⟩ := h.run
  have e : sMake n f sa l m = .ok (.ref m1.length) m2 := by
    unfold sMake
    rw [e1]
    show (if xs.length + 1 = n then _ else _) = _
    rw [if_pos hl, e2]
    rfl
  rw [e, wp_ok]
  exact q
theorem s_fldS {i : Nat} {so sv : SE} {l : SM.Loc} {m : MH} {D : ED} (h : WP (sv l m) (fun y m1 => WP (so l m1) (fun x m2 => ∃ n fs, x = .ref n ∧ m2[n]? = some (.ins fs) ∧ fs.length = i ∧ D.nx l (m2.set n (.ins (fs ++ [y])))) NoE) NoE) : WS (xFldS i so sv l m) D := by
  obtain ⟨y, m1, e1, h⟩ := h.run
  obtain ⟨x, m2, e2, n, fs, rfl, h1, h2, q⟩ := h.run
  have e : xFldS i so sv l m = .nx l (m2.set n (.ins (fs ++ [y]))) := by
    unfold xFldS
    rw [e1]; dsimp only [R.then]
    rw [e2]; dsimp only [R.then]
    rw [h1]; dsimp only
    rw [if_pos h2]
  rw [e]
  unfold WS
  exact q
theorem w_sortL {P : Addr} {q : Str} {g : FS} {sa : SA} {l : SM.Loc} {m : MH} {Q : PV → MH → Prop} {E : EX} (h : WP (sa l m) (fun xs m1 => ∃ n ys, xs = [.ref n] ∧ seq? m1 n = some ys ∧ SortKOk g m1 ys ∧ m1[1]? = some (.tbl P q) ∧ Q (.ref m1.length) (m1 ++ [.lst (sortK g m1 ys)])) NoE) : WP (sSortL P q g sa l m) Q E := by
  obtain ⟨xs, m1, e1, n, ys, rfl, h1, h2, h3, hq⟩ := h.run
  have e : sSortL P q g sa l m = .ok (.ref m1.length) (m1 ++ [.lst (sortK g m1 ys)]) := by
    unfold sSortL
    rw [e1]
    show sortLv P q g [.ref n] m1 = _
    unfold sortLv
    dsimp only
    rw [h1]; dsimp only
    rw [if_pos ⟨h2, h3⟩]
  rw [e, wp_ok]
  exact hq
theorem ws_exE {c : String} {fs : List PV} {l : SM.Loc} {m : MH} {D : ED} (h : WS (.ex c fs l m) D) : D.ex c fs l m := by unfold WS at h; exact h
theorem s_tryO {cn : String} {sb sh : SS} {l : SM.Loc} {m : MH} {D : ED} (h : WS (sb l m) { D with ex := fun c fs l' m' => (∃ y, fs = [y]) ∧ c = cn ∧ WS (sh l' m') { D with ex := fun _ _ _ _ => False } }) : WS (xTryO cn sb sh l m) D := by
  unfold xTryO
  cases hs : sb l m with
  | nx l' m' => rw [hs] at h; unfold WS at h ⊢; exact h
  | rt y m' => rw [hs] at h; unfold WS at h ⊢; exact h
  | bk l' m' => rw [hs] at h; unfold WS at h ⊢; exact h
  | ct l' m' => rw [hs] at h; unfold WS at h ⊢; exact h
  | bad => rw [hs] at h; unfold WS at h ⊢; exact h
  | ex c fs l' m' =>
    rw [hs] at h
    have h : (∃ y, fs = [y]) ∧ c = cn ∧ WS (sh l' m') { D with ex := fun _ _ _ _ => False } := ws_exE h
    obtain ⟨⟨y, rfl⟩, hc, h⟩ := h
    dsimp only
    rw [if_pos hc]
    cases hh : sh l' m' with
    | nx l3 m3 => rw [hh] at h; unfold WS at h ⊢; exact h
    | rt y3 m3 => rw [hh] at h; unfold WS at h ⊢; exact h
    | bk l3 m3 => rw [hh] at h; unfold WS at h ⊢; exact h
    | ct l3 m3 => rw [hh] at h; unfold WS at h ⊢; exact h
    | bad => rw [hh] at h; unfold WS at h ⊢; exact h
    | ex c3 fs3 l3 m3 => rw [hh] at h; unfold WS at h; exact h.elim
theorem w_maxD {sa sk : SA} {l : SM.Loc} {m : MH} {Q : PV → MH → Prop} {E : EX} (h : WP (sa l m) (fun xs m1 => WP (sk l m1) (fun ks m2 => ∃ n ns d, xs = [.ref n] ∧ ks = [.int d] ∧ seq? m2 n = some (ns.map .int) ∧ Q (.int (maxDf ns d)) m2) NoE) NoE) : WP (sMaxD sa sk l m) Q E := by
  obtain ⟨xs, m1, e1, h⟩ := h.run
  obtain ⟨ks, m2, e2, n, ns, d, rfl, rfl, h1, q⟩ := h.run
  have e : sMaxD sa sk l m = .ok (.int (maxDf ns d)) m2 := by
    unfold sMaxD
    rw [e1]
    show (sk l m1).bind _ = _
    rw [e2]
    show (match seq? m2 n with | some ys => _ | none => _) = _
    rw [h1]; dsimp only
    rw [SM.ints_map]
  rw [e, wp_ok]
  exact q
theorem extend_r {m : MH} {n k : Nat} {xs ys : List PV} (h : m[n]? = some (.lst xs)) (h2 : m[k]? = some (.lst ys)) (hl : xs.length + ys.length ≤ 16777216) : extendv (.ref n) [.ref k] m = some (.non, m.set n (.lst (xs ++ ys))) := by
  unfold extendv; dsimp only; rw [lst_of h, lst_of h2]; dsimp only; rw [if_pos hl]
theorem w_ninT {sk : SA} {j : Nat} {l : SM.Loc} {m : MH} {Q : PV → MH → Prop} {E : EX} (h : WP (sk l m) (fun ks m1 => ∃ a b n kvs, ks = [.int a, .int b] ∧ l[j]? = some (some (.ref n)) ∧ m1[n]? = some (.dct kvs) ∧ Q (.bl (!(SM.getD kvs [a, b]).isSome)) m1) NoE) : WP (sNinT sk j l m) Q E := by
  obtain ⟨ks, m1, e1, a, b, n, kvs, rfl, h1, h2, q⟩ := h.run
  have e : sNinT sk j l m = .ok (.bl (!(SM.getD kvs [a, b]).isSome)) m1 := by
    unfold sNinT
    rw [e1]
    show (sVar j l m1).bind _ = _
    unfold sVar
    rw [h1]
    show lift (ninTv [.int a, .int b] (.ref n) m1) = _
    unfold ninTv
    dsimp only
    rw [h2]
    rfl
  rw [e, wp_ok]
  exact q
def DD (n : Nat) (x : PV) (d : PyData) : Prop := (∀ m, toD m n x = some d) ∧ PyData.canLay0 d = true ∧ PyData.depth d ≤ n
inductive DDs (n : Nat) : List PV → List PyData → Prop
  | nil : DDs n [] []
  | cons {x : PV} {d : PyData} {xs : List PV} {ds : List PyData} (h : DD n x d) (r : DDs n xs ds) : DDs n (x :: xs) (d :: ds)
theorem dd_int {n : Nat} {i : Int} : DD n (.int i) (.int i) := ⟨fun m => by cases n <;> rfl, by simp [PyData.canLay0], by simp [PyData.depth]⟩
theorem dd_non {n : Nat} : DD n .non .none := ⟨fun m => by cases n <;> rfl, by simp [PyData.canLay0], by simp [PyData.depth]⟩
theorem dd_str {n : Nat} {s : List Nat} (h : Cps s) : DD n (.str s) (.str ⟨s.toArray⟩) := ⟨fun m => by cases n <;> rfl, by simpa [PyData.canLay0] using strOk_of h, by simp [PyData.depth]⟩
theorem DDs.all {n : Nat} : ∀ {xs : List PV} {ds : List PyData}, DDs n xs ds → (∀ m, allO (xs.map (toD m n)) = some ds) ∧ PyData.canLayAll0 ds = true ∧ PyData.depthAll ds ≤ n
  | _, _, .nil => ⟨fun _ => rfl, by simp [PyData.canLayAll0], by simp [PyData.depthAll]⟩
  | _, _, .cons h r => by
    obtain ⟨a1, a2, a3⟩ := h
    obtain ⟨b1, b2, b3⟩ := DDs.all r
    refine ⟨fun m => ?_, by simp [PyData.canLayAll0, a2, b2], by simp [PyData.depthAll]; omega⟩
    rw [List.map_cons, a1]
    unfold allO
    rw [b1]
    rfl
theorem dd_tup {n : Nat} {xs : List PV} {ds : List PyData} (h : DDs n xs ds) : DD (n + 1) (.tup xs) (.tuple ds) := by
  obtain ⟨b1, b2, b3⟩ := h.all
  refine ⟨fun m => ?_, by simpa [PyData.canLay0] using b2, by simp [PyData.depth]; omega⟩
  show (allO (xs.map (toD m n))).map PyData.tuple = _
  rw [b1]
  rfl
theorem dds_of {α : Type} {n : Nat} {f : α → PV} : ∀ {xs : List α}, (∀ x ∈ xs, ∃ d, DD n (f x) d) → ∃ ds, DDs n (xs.map f) ds
  | [], _ => ⟨[], .nil⟩
  | x :: xs, h => by
    obtain ⟨d, hd⟩ := h x List.mem_cons_self
    obtain ⟨ds, hds⟩ := dds_of (xs := xs) fun y hy => h y (List.mem_cons_of_mem _ hy)
    exact ⟨d :: ds, .cons hd hds⟩
theorem dd_tupM {α : Type} {n : Nat} {f : α → PV} {xs : List α} (h : ∀ x ∈ xs, ∃ d, DD n (f x) d) : ∃ d, DD (n + 1) (.tup (xs.map f)) d :=
  let ⟨_, e⟩ := dds_of h; ⟨_, dd_tup e⟩
theorem eq_data {m : MH} {x y : PV} {d : PyData} (h0 : eqF x y = none) (h1 : toD m 8 x = some d) (h2 : toD m 8 y = some d) (h3 : PyData.canLay0 d = true) (h4 : PyData.depth d ≤ 64) : SM.eqV m x y = some true := by
  have s4 := shp h3 h4
  unfold SM.eqV
  rw [h0]
  dsimp only
  unfold eqD
  rw [h1, h2]
  dsimp only
  rw [if_pos ⟨s4, s4⟩, SeqAt.eqv_refl _ h3]
theorem eq_dd {m : MH} {xs : List PV} {d : PyData} (h : DD 8 (.tup xs) d) : SM.eqV m (.tup xs) (.tup xs) = some true := eq_data rfl (h.1 m) (h.1 m) h.2.1 (by have := h.2.2; omega)
theorem toD_lst {m : MH} {n i : Nat} {xs : List PV} {ds : List PyData} (h1 : seq? m i = some xs) (h : DDs n xs ds) : toD m (n + 1) (.ref i) = some (.list ds) := by
  show (match seq? m i with | some xs => (allO (xs.map (toD m n))).map PyData.list | none => none) = _
  rw [h1]
  dsimp only
  rw [h.all.1]
  rfl
theorem eq_lsts {m : MH} {i j : Nat} {xs : List PV} {ds : List PyData} (h1 : seq? m i = some xs) (h2 : seq? m j = some xs) (h : DDs 7 xs ds) : SM.eqV m (.ref i) (.ref j) = some true :=
  eq_data rfl (toD_lst h1 h) (toD_lst h2 h) (by simpa [PyData.canLay0] using h.all.2.1) (by have := h.all.2.2; simp [PyData.depth]; omega)
theorem ten_lt : ∀ (s : List Nat), s = [97, 110, 110] ∨ s = [98, 111] ∨ s = [99, 121] → Cps s := by
  rintro s (rfl | rfl | rfl) <;> (intro c hc; simp only [List.mem_cons, List.not_mem_nil, or_false] at hc; omega)
inductive En where
  | clk (c : Clk)
  | stk (race : Nat) (ring u : Int)
  | tra (ring : Int) (race : Nat) (o : List Nat)
  | slp (race : Nat) (ring : Int) (rd : PV)
def kClk : List Nat := [99, 108, 111, 99, 107]
def kSlp : List Nat := [115, 108, 105, 112]
def kStk : List Nat := [115, 116, 97, 107, 101]
def kTra : List Nat := [116, 114, 97, 110, 115, 102, 101, 114]
def En.kind : En → List Nat
  | .clk _ => kClk
  | .stk .. => kStk
  | .tra .. => kTra
  | .slp .. => kSlp
def En.rest : En → List PV
  | .clk c => [.int (c.race : Nat), .int (c.loft : Nat), .int c.b, .int c.e, .int c.s]
  | .stk r g u => [.int (r : Nat), .int g, .int u]
  | .tra g r o => [.int g, .int (r : Nat), .str o]
  | .slp r g v => [.int (r : Nat), .int g, v]
def En.pv (e : En) : PV := .tup (.str e.kind :: e.rest)
def EnOk (L : List Loft) (B : List Bird) (R : List Race) : En → Prop
  | .clk c => ClkOk L R c
  | .stk r g u => r < R.length ∧ g ∈ B.map Bird.ring ∧ 0 ≤ u ∧ u ≤ 100
  | .tra g r o => g ∈ B.map Bird.ring ∧ r < R.length ∧ (o = [97, 110, 110] ∨ o = [98, 111] ∨ o = [99, 121])
  | .slp r g v => r < R.length ∧ g ∈ B.map Bird.ring ∧ (v = .non ∨ ∃ k, v = .int k ∧ 0 ≤ k ∧ k ≤ 9999)
structure Tl where
  st : Int
  src : Int
  e : En
def Tl.pv (t : Tl) : PV := .tup [.int t.st, .int t.src, t.e.pv]
theorem cps_kind (e : En) : Cps e.kind := by
  cases e <;> (intro c hc; simp only [En.kind, kClk, kStk, kTra, kSlp, List.mem_cons, List.not_mem_nil, or_false] at hc; omega)
theorem rest_dd {L : List Loft} {B : List Bird} {R : List Race} {e : En} (h : EnOk L B R e) (n : Nat) : ∃ ds, DDs n e.rest ds := by
  cases e with
  | clk c => exact ⟨_, .cons dd_int (.cons dd_int (.cons dd_int (.cons dd_int (.cons dd_int .nil))))⟩
  | stk r g u => exact ⟨_, .cons dd_int (.cons dd_int (.cons dd_int .nil))⟩
  | tra g r o => exact ⟨_, .cons dd_int (.cons dd_int (.cons (dd_str (ten_lt o h.2.2)) .nil))⟩
  | slp r g v =>
    rcases h.2.2 with rfl | ⟨k, rfl, _⟩
    · exact ⟨_, .cons dd_int (.cons dd_int (.cons dd_non .nil))⟩
    · exact ⟨_, .cons dd_int (.cons dd_int (.cons dd_int .nil))⟩
theorem en_dd {L : List Loft} {B : List Bird} {R : List Race} {e : En} (h : EnOk L B R e) (n : Nat) : ∃ d, DD (n + 1) e.pv d := by
  obtain ⟨ds, hd⟩ := rest_dd h n
  exact ⟨_, dd_tup (.cons (dd_str (cps_kind e)) hd)⟩
theorem tl_dd {L : List Loft} {B : List Bird} {R : List Race} {t : Tl} (h : EnOk L B R t.e) (n : Nat) : ∃ d, DD (n + 2) t.pv d := by
  obtain ⟨d, hd⟩ := en_dd h n
  exact ⟨_, dd_tup (.cons dd_int (.cons dd_int (.cons hd .nil)))⟩
theorem tls_dd {L : List Loft} {B : List Bird} {R : List Race} {ts : List Tl} (h : ∀ t ∈ ts, EnOk L B R t.e) (n : Nat) : ∃ ds, DDs (n + 2) (ts.map Tl.pv) ds := dds_of fun t ht => tl_dd (h t ht) n
theorem club_dd {L : List Loft} {B : List Bird} {R : List Race} (hC : ClubG L B R) : ∃ d, DD 8 (clubPV L B R) d := by
  obtain ⟨d1, h1⟩ : ∃ d, DD 7 (.tup (L.map Loft.pv)) d := dd_tupM fun l hl => ⟨_, dd_tup (.cons (dd_str (hC.nm l hl)) (.cons dd_int (.cons dd_int .nil)))⟩
  obtain ⟨d2, h2⟩ : ∃ d, DD 7 (.tup (B.map Bird.pv)) d := dd_tupM fun l hl => ⟨_, dd_tup (.cons dd_int (.cons dd_int (.cons dd_int .nil)))⟩
  obtain ⟨d3, h3⟩ : ∃ d, DD 7 (.tup (R.map Race.pv)) d := dd_tupM fun l hl => ⟨_, dd_tup (.cons (dd_str (hC.rs l hl).2.2.2) (.cons dd_int (.cons dd_int (.cons dd_int (.cons dd_int (.cons dd_int (.cons dd_int .nil))))))) ⟩
  exact ⟨_, dd_tup (.cons h1 (.cons h2 (.cons h3 .nil)))⟩
theorem pickS3 {m : MH} {n : Nat} {a b c : PV} {v : Int} (h : m[n]? = some (.lst [a, b, c])) (h0 : 0 ≤ v) (h1 : v < 3) : ∃ w, ixv (.ref n) (.int v) m = some (w, m) ∧ (w = a ∨ w = b ∨ w = c) := by
  rcases (by omega : v = 0 ∨ v = 1 ∨ v = 2) with rfl | rfl | rfl
  · exact ⟨a, by rw [ix_r (seq_of_lst h), at0]; rfl, .inl rfl⟩
  · exact ⟨b, by rw [ix_r (seq_of_lst h), at1]; rfl, .inr (.inl rfl)⟩
  · exact ⟨c, by rw [ix_r (seq_of_lst h), at2]; rfl, .inr (.inr rfl)⟩
theorem entry_ok {m : MH} {c k : Int} {L : List Loft} {B : List Bird} {R : List Race} (hk : 0 ≤ k) (hk2 : k ≤ 5000) (hC : ClubG L B R) :
    WP (f_law_entry [.int c, .int k, clubPV L B R] m) (fun x m' => ∃ e : En, x = e.pv ∧ EnOk L B R e ∧ Gr m m') NoE := by
  have b1 := hC.b1; have b2 := hC.b2; have r1 := hC.r1; have r2 := hC.r2; have l1 := hC.l1
  unfold f_law_entry b_law_entry clubPV
  walk_at "w1"
  rw [s_seq]
  walk_at "w1"
  refine (padded_ok hk hk2).mono ?_
  rintro _ _ ⟨ds, rfl, rfl, hp⟩
  have PD := get_new (m := m) (o := MO.lst (ds.map PV.int))
  have G1 := Gr.one (m := m) (o := MO.lst (ds.map PV.int))
  generalize m ++ [MO.lst (ds.map PV.int)] = m2 at *
  generalize m.length = dn at *
  obtain ⟨u0, e0, a0, b0⟩ := hp.at (i := 0) (by decide) (by decide)
  obtain ⟨u1, e1, a1, b1'⟩ := hp.at (i := 1) (by decide) (by decide)
  obtain ⟨u2, e2, a2, b2'⟩ := hp.at (i := 2) (by decide) (by decide)
  obtain ⟨u3, e3, a3, b3⟩ := hp.at (i := 3) (by decide) (by decide)
  obtain ⟨u4, e4, a4, b4⟩ := hp.at (i := 4) (by decide) (by decide)
  obtain ⟨u5, e5, a5, b5⟩ := hp.at (i := 5) (by decide) (by decide)
  obtain ⟨u6, e6, a6, b6⟩ := hp.at (i := 6) (by decide) (by decide)
  walk_at "w1"
  rw [s_seq]
  try simp -dsimp only [pix PD e0, at0, at1, at2, at3, at4, at5, at6, wp_fn, s_nil, s_brk, s_cnt, s_expr, s_ret, s_retN, s_if, s_asn, s_par, s_asg, g_nm, g_nil, g_cons, g_tupT, g_subW, w_v0, w_vS, w_c, w_op, w_un, w_anil, w_acons, w_tup, w_lst, w_call, w_callU, w_isi, w_meth, w_tru, w_bool, w_notS, w_andS, w_orS, w_ifx, w_andV, w_orV, w_notV, w_chain, wp_ok, wp_bad, wp_some, wp_none, wp_liftif, wp_if, asB_b, wp_noex, add_ii, sub_ii, mul_ii, fdiv_ii, mod_ii, pow_ii, neg_i, cmp_ii, lt_ii, le_ii, gt_ii, ge_ii, le_cc, muls_ii, muls_si, ins_cs, iadd_ii, isub_ii, w_onone, w_osome, w_sl, sl_s, sl_t, s_aug, eq_ss, len_s, ix_s, add_ss, str_s, tuple_t, list_t, is_n, not_n, non_n, non_i, non_b, non_s, non_t, non_r, abs_i, max_ii, min_ii, int_i, int_b, gcd_ii, len_t, ix_t, eq_v, ne_v, eq_ii, eq_bb, eq_nn, eq_in, eq_ni, iv_n_list, iv_n_tuple, iv_n_bool, iv_n_str, iv_n_int, okt_n, iv_b_list, iv_b_tuple, iv_b_bool, iv_b_str, iv_b_int, okt_b, iv_i_list, iv_i_tuple, iv_i_bool, iv_i_str, iv_i_int, okt_i, iv_s_list, iv_s_tuple, iv_s_bool, iv_s_str, iv_s_int, okt_s, iv_t_list, iv_t_tuple, iv_t_bool, iv_t_str, iv_t_int, okt_t, iv_r_list, iv_r_tuple, iv_r_bool, iv_r_str, iv_r_int, tru_b, tru_i, tru_n, tru_t, Option.map_some, Option.map_none, List.map_cons, List.map_nil, List.length_cons, List.length_nil, List.set_cons_zero, List.set_cons_succ, List.cons_append, List.nil_append, List.replicate, Nat.reduceAdd, Nat.reduceSub, Nat.reduceLeDiff, true_and, and_true, decide_eq_true_eq, reduceIte, Bool.false_eq_true, Bool.not_true, Bool.not_false, decide_true, decide_false]
  rw [List.length_map, if_pos (by omega), fmod_pos (by omega)]
  have q1 := Int.emod_nonneg u0 (show ((R.length : Nat) : Int) ≠ 0 by omega)
  have q2 := Int.emod_lt_of_pos u0 (show (0 : Int) < (R.length : Nat) by omega)
  generalize u0 % ((R.length : Nat) : Int) = q at *
  obtain ⟨q, rfl⟩ := Int.eq_ofNat_of_zero_le q1
  have eq : R[q]? = some (R[q]'(by omega)) := List.getElem?_eq_getElem (by omega)
  have hs := hC.rs _ (List.mem_of_getElem? eq)
  generalize R[q]'(by omega) = rc at *
  walk_at "w0"
  rw [s_seq]
  try simp -dsimp only [pix PD e1, at0, at1, at2, at3, at4, at5, at6, wp_fn, s_nil, s_brk, s_cnt, s_expr, s_ret, s_retN, s_if, s_asn, s_par, s_asg, g_nm, g_nil, g_cons, g_tupT, g_subW, w_v0, w_vS, w_c, w_op, w_un, w_anil, w_acons, w_tup, w_lst, w_call, w_callU, w_isi, w_meth, w_tru, w_bool, w_notS, w_andS, w_orS, w_ifx, w_andV, w_orV, w_notV, w_chain, wp_ok, wp_bad, wp_some, wp_none, wp_liftif, wp_if, asB_b, wp_noex, add_ii, sub_ii, mul_ii, fdiv_ii, mod_ii, pow_ii, neg_i, cmp_ii, lt_ii, le_ii, gt_ii, ge_ii, le_cc, muls_ii, muls_si, ins_cs, iadd_ii, isub_ii, w_onone, w_osome, w_sl, sl_s, sl_t, s_aug, eq_ss, len_s, ix_s, add_ss, str_s, tuple_t, list_t, is_n, not_n, non_n, non_i, non_b, non_s, non_t, non_r, abs_i, max_ii, min_ii, int_i, int_b, gcd_ii, len_t, ix_t, eq_v, ne_v, eq_ii, eq_bb, eq_nn, eq_in, eq_ni, iv_n_list, iv_n_tuple, iv_n_bool, iv_n_str, iv_n_int, okt_n, iv_b_list, iv_b_tuple, iv_b_bool, iv_b_str, iv_b_int, okt_b, iv_i_list, iv_i_tuple, iv_i_bool, iv_i_str, iv_i_int, okt_i, iv_s_list, iv_s_tuple, iv_s_bool, iv_s_str, iv_s_int, okt_s, iv_t_list, iv_t_tuple, iv_t_bool, iv_t_str, iv_t_int, okt_t, iv_r_list, iv_r_tuple, iv_r_bool, iv_r_str, iv_r_int, tru_b, tru_i, tru_n, tru_t, Option.map_some, Option.map_none, List.map_cons, List.map_nil, List.length_cons, List.length_nil, List.set_cons_zero, List.set_cons_succ, List.cons_append, List.nil_append, List.replicate, Nat.reduceAdd, Nat.reduceSub, Nat.reduceLeDiff, true_and, and_true, decide_eq_true_eq, reduceIte, Bool.false_eq_true, Bool.not_true, Bool.not_false, decide_true, decide_false]
  rw [List.length_map, if_pos (by omega), fmod_pos (by omega)]
  have z1 := Int.emod_nonneg u1 (show ((B.length : Nat) : Int) ≠ 0 by omega)
  have z2 := Int.emod_lt_of_pos u1 (show (0 : Int) < (B.length : Nat) by omega)
  generalize u1 % ((B.length : Nat) : Int) = z at *
  obtain ⟨z, rfl⟩ := Int.eq_ofNat_of_zero_le z1
  have ez : B[z]? = some (B[z]'(by omega)) := List.getElem?_eq_getElem (by omega)
  generalize B[z]'(by omega) = bd at *
  have hg : bd.ring ∈ B.map Bird.ring := List.mem_map.mpr ⟨bd, List.mem_of_getElem? ez, rfl⟩
  try simp -dsimp only [at_map ez, Bird.pv, at0, at1, at2, at3, at4, at5, at6, wp_fn, s_nil, s_brk, s_cnt, s_expr, s_ret, s_retN, s_if, s_asn, s_par, s_asg, g_nm, g_nil, g_cons, g_tupT, g_subW, w_v0, w_vS, w_c, w_op, w_un, w_anil, w_acons, w_tup, w_lst, w_call, w_callU, w_isi, w_meth, w_tru, w_bool, w_notS, w_andS, w_orS, w_ifx, w_andV, w_orV, w_notV, w_chain, wp_ok, wp_bad, wp_some, wp_none, wp_liftif, wp_if, asB_b, wp_noex, add_ii, sub_ii, mul_ii, fdiv_ii, mod_ii, pow_ii, neg_i, cmp_ii, lt_ii, le_ii, gt_ii, ge_ii, le_cc, muls_ii, muls_si, ins_cs, iadd_ii, isub_ii, w_onone, w_osome, w_sl, sl_s, sl_t, s_aug, eq_ss, len_s, ix_s, add_ss, str_s, tuple_t, list_t, is_n, not_n, non_n, non_i, non_b, non_s, non_t, non_r, abs_i, max_ii, min_ii, int_i, int_b, gcd_ii, len_t, ix_t, eq_v, ne_v, eq_ii, eq_bb, eq_nn, eq_in, eq_ni, iv_n_list, iv_n_tuple, iv_n_bool, iv_n_str, iv_n_int, okt_n, iv_b_list, iv_b_tuple, iv_b_bool, iv_b_str, iv_b_int, okt_b, iv_i_list, iv_i_tuple, iv_i_bool, iv_i_str, iv_i_int, okt_i, iv_s_list, iv_s_tuple, iv_s_bool, iv_s_str, iv_s_int, okt_s, iv_t_list, iv_t_tuple, iv_t_bool, iv_t_str, iv_t_int, okt_t, iv_r_list, iv_r_tuple, iv_r_bool, iv_r_str, iv_r_int, tru_b, tru_i, tru_n, tru_t, Option.map_some, Option.map_none, List.map_cons, List.map_nil, List.length_cons, List.length_nil, List.set_cons_zero, List.set_cons_succ, List.cons_append, List.nil_append, List.replicate, Nat.reduceAdd, Nat.reduceSub, Nat.reduceLeDiff, true_and, and_true, decide_eq_true_eq, reduceIte, Bool.false_eq_true, Bool.not_true, Bool.not_false, decide_true, decide_false]
  rw [s_seq]
  try simp -dsimp only [at_map eq, Race.pv, at0, at1, at2, at3, at4, at5, at6, wp_fn, s_nil, s_brk, s_cnt, s_expr, s_ret, s_retN, s_if, s_asn, s_par, s_asg, g_nm, g_nil, g_cons, g_tupT, g_subW, w_v0, w_vS, w_c, w_op, w_un, w_anil, w_acons, w_tup, w_lst, w_call, w_callU, w_isi, w_meth, w_tru, w_bool, w_notS, w_andS, w_orS, w_ifx, w_andV, w_orV, w_notV, w_chain, wp_ok, wp_bad, wp_some, wp_none, wp_liftif, wp_if, asB_b, wp_noex, add_ii, sub_ii, mul_ii, fdiv_ii, mod_ii, pow_ii, neg_i, cmp_ii, lt_ii, le_ii, gt_ii, ge_ii, le_cc, muls_ii, muls_si, ins_cs, iadd_ii, isub_ii, w_onone, w_osome, w_sl, sl_s, sl_t, s_aug, eq_ss, len_s, ix_s, add_ss, str_s, tuple_t, list_t, is_n, not_n, non_n, non_i, non_b, non_s, non_t, non_r, abs_i, max_ii, min_ii, int_i, int_b, gcd_ii, len_t, ix_t, eq_v, ne_v, eq_ii, eq_bb, eq_nn, eq_in, eq_ni, iv_n_list, iv_n_tuple, iv_n_bool, iv_n_str, iv_n_int, okt_n, iv_b_list, iv_b_tuple, iv_b_bool, iv_b_str, iv_b_int, okt_b, iv_i_list, iv_i_tuple, iv_i_bool, iv_i_str, iv_i_int, okt_i, iv_s_list, iv_s_tuple, iv_s_bool, iv_s_str, iv_s_int, okt_s, iv_t_list, iv_t_tuple, iv_t_bool, iv_t_str, iv_t_int, okt_t, iv_r_list, iv_r_tuple, iv_r_bool, iv_r_str, iv_r_int, tru_b, tru_i, tru_n, tru_t, Option.map_some, Option.map_none, List.map_cons, List.map_nil, List.length_cons, List.length_nil, List.set_cons_zero, List.set_cons_succ, List.cons_append, List.nil_append, List.replicate, Nat.reduceAdd, Nat.reduceSub, Nat.reduceLeDiff, true_and, and_true, decide_eq_true_eq, reduceIte, Bool.false_eq_true, Bool.not_true, Bool.not_false, decide_true, decide_false]
  rw [s_seq]
  try simp -dsimp only [pix PD e2, at0, at1, at2, at3, at4, at5, at6, wp_fn, s_nil, s_brk, s_cnt, s_expr, s_ret, s_retN, s_if, s_asn, s_par, s_asg, g_nm, g_nil, g_cons, g_tupT, g_subW, w_v0, w_vS, w_c, w_op, w_un, w_anil, w_acons, w_tup, w_lst, w_call, w_callU, w_isi, w_meth, w_tru, w_bool, w_notS, w_andS, w_orS, w_ifx, w_andV, w_orV, w_notV, w_chain, wp_ok, wp_bad, wp_some, wp_none, wp_liftif, wp_if, asB_b, wp_noex, add_ii, sub_ii, mul_ii, fdiv_ii, mod_ii, pow_ii, neg_i, cmp_ii, lt_ii, le_ii, gt_ii, ge_ii, le_cc, muls_ii, muls_si, ins_cs, iadd_ii, isub_ii, w_onone, w_osome, w_sl, sl_s, sl_t, s_aug, eq_ss, len_s, ix_s, add_ss, str_s, tuple_t, list_t, is_n, not_n, non_n, non_i, non_b, non_s, non_t, non_r, abs_i, max_ii, min_ii, int_i, int_b, gcd_ii, len_t, ix_t, eq_v, ne_v, eq_ii, eq_bb, eq_nn, eq_in, eq_ni, iv_n_list, iv_n_tuple, iv_n_bool, iv_n_str, iv_n_int, okt_n, iv_b_list, iv_b_tuple, iv_b_bool, iv_b_str, iv_b_int, okt_b, iv_i_list, iv_i_tuple, iv_i_bool, iv_i_str, iv_i_int, okt_i, iv_s_list, iv_s_tuple, iv_s_bool, iv_s_str, iv_s_int, okt_s, iv_t_list, iv_t_tuple, iv_t_bool, iv_t_str, iv_t_int, okt_t, iv_r_list, iv_r_tuple, iv_r_bool, iv_r_str, iv_r_int, tru_b, tru_i, tru_n, tru_t, Option.map_some, Option.map_none, List.map_cons, List.map_nil, List.length_cons, List.length_nil, List.set_cons_zero, List.set_cons_succ, List.cons_append, List.nil_append, List.replicate, Nat.reduceAdd, Nat.reduceSub, Nat.reduceLeDiff, true_and, and_true, decide_eq_true_eq, reduceIte, Bool.false_eq_true, Bool.not_true, Bool.not_false, decide_true, decide_false]
  rw [if_pos (by decide), fmod_pos (by decide)]
  walk_at "w0"
  rw [s_seq]
  walk_at "w0"
  generalize u2 % 5 = kd at *
  by_cases c0 : kd = 0
  · rw [if_pos c0]
    walk_at "w0"
    rw [s_seq]
    try simp -dsimp only [pix PD e3, at0, at1, at2, at3, at4, at5, at6, wp_fn, s_nil, s_brk, s_cnt, s_expr, s_ret, s_retN, s_if, s_asn, s_par, s_asg, g_nm, g_nil, g_cons, g_tupT, g_subW, w_v0, w_vS, w_c, w_op, w_un, w_anil, w_acons, w_tup, w_lst, w_call, w_callU, w_isi, w_meth, w_tru, w_bool, w_notS, w_andS, w_orS, w_ifx, w_andV, w_orV, w_notV, w_chain, wp_ok, wp_bad, wp_some, wp_none, wp_liftif, wp_if, asB_b, wp_noex, add_ii, sub_ii, mul_ii, fdiv_ii, mod_ii, pow_ii, neg_i, cmp_ii, lt_ii, le_ii, gt_ii, ge_ii, le_cc, muls_ii, muls_si, ins_cs, iadd_ii, isub_ii, w_onone, w_osome, w_sl, sl_s, sl_t, s_aug, eq_ss, len_s, ix_s, add_ss, str_s, tuple_t, list_t, is_n, not_n, non_n, non_i, non_b, non_s, non_t, non_r, abs_i, max_ii, min_ii, int_i, int_b, gcd_ii, len_t, ix_t, eq_v, ne_v, eq_ii, eq_bb, eq_nn, eq_in, eq_ni, iv_n_list, iv_n_tuple, iv_n_bool, iv_n_str, iv_n_int, okt_n, iv_b_list, iv_b_tuple, iv_b_bool, iv_b_str, iv_b_int, okt_b, iv_i_list, iv_i_tuple, iv_i_bool, iv_i_str, iv_i_int, okt_i, iv_s_list, iv_s_tuple, iv_s_bool, iv_s_str, iv_s_int, okt_s, iv_t_list, iv_t_tuple, iv_t_bool, iv_t_str, iv_t_int, okt_t, iv_r_list, iv_r_tuple, iv_r_bool, iv_r_str, iv_r_int, tru_b, tru_i, tru_n, tru_t, Option.map_some, Option.map_none, List.map_cons, List.map_nil, List.length_cons, List.length_nil, List.set_cons_zero, List.set_cons_succ, List.cons_append, List.nil_append, List.replicate, Nat.reduceAdd, Nat.reduceSub, Nat.reduceLeDiff, true_and, and_true, decide_eq_true_eq, reduceIte, Bool.false_eq_true, Bool.not_true, Bool.not_false, decide_true, decide_false]
    rw [if_pos (by decide), fmod_pos (by decide)]
    try simp -dsimp only [pix PD e4, pix PD e5, pix PD e6, at0, at1, at2, at3, at4, at5, at6, wp_fn, s_nil, s_brk, s_cnt, s_expr, s_ret, s_retN, s_if, s_asn, s_par, s_asg, g_nm, g_nil, g_cons, g_tupT, g_subW, w_v0, w_vS, w_c, w_op, w_un, w_anil, w_acons, w_tup, w_lst, w_call, w_callU, w_isi, w_meth, w_tru, w_bool, w_notS, w_andS, w_orS, w_ifx, w_andV, w_orV, w_notV, w_chain, wp_ok, wp_bad, wp_some, wp_none, wp_liftif, wp_if, asB_b, wp_noex, add_ii, sub_ii, mul_ii, fdiv_ii, mod_ii, pow_ii, neg_i, cmp_ii, lt_ii, le_ii, gt_ii, ge_ii, le_cc, muls_ii, muls_si, ins_cs, iadd_ii, isub_ii, w_onone, w_osome, w_sl, sl_s, sl_t, s_aug, eq_ss, len_s, ix_s, add_ss, str_s, tuple_t, list_t, is_n, not_n, non_n, non_i, non_b, non_s, non_t, non_r, abs_i, max_ii, min_ii, int_i, int_b, gcd_ii, len_t, ix_t, eq_v, ne_v, eq_ii, eq_bb, eq_nn, eq_in, eq_ni, iv_n_list, iv_n_tuple, iv_n_bool, iv_n_str, iv_n_int, okt_n, iv_b_list, iv_b_tuple, iv_b_bool, iv_b_str, iv_b_int, okt_b, iv_i_list, iv_i_tuple, iv_i_bool, iv_i_str, iv_i_int, okt_i, iv_s_list, iv_s_tuple, iv_s_bool, iv_s_str, iv_s_int, okt_s, iv_t_list, iv_t_tuple, iv_t_bool, iv_t_str, iv_t_int, okt_t, iv_r_list, iv_r_tuple, iv_r_bool, iv_r_str, iv_r_int, tru_b, tru_i, tru_n, tru_t, Option.map_some, Option.map_none, List.map_cons, List.map_nil, List.length_cons, List.length_nil, List.set_cons_zero, List.set_cons_succ, List.cons_append, List.nil_append, List.replicate, Nat.reduceAdd, Nat.reduceSub, Nat.reduceLeDiff, true_and, and_true, decide_eq_true_eq, reduceIte, Bool.false_eq_true, Bool.not_true, Bool.not_false, decide_true, decide_false]
    rw [List.length_map, if_pos (by omega), fmod_pos (by omega)]
    have y1 := Int.emod_nonneg u4 (show ((L.length : Nat) : Int) ≠ 0 by omega)
    have y2 := Int.emod_lt_of_pos u4 (show (0 : Int) < (L.length : Nat) by omega)
    generalize u4 % ((L.length : Nat) : Int) = y at *
    obtain ⟨y, rfl⟩ := Int.eq_ofNat_of_zero_le y1
    (repeat first | rw [if_pos (by decide)] | rw [fmod_pos (by decide)])
    try simp -dsimp only [pix PD e5, pix PD e6, at0, at1, at2, at3, at4, at5, at6, wp_fn, s_nil, s_brk, s_cnt, s_expr, s_ret, s_retN, s_if, s_asn, s_par, s_asg, g_nm, g_nil, g_cons, g_tupT, g_subW, w_v0, w_vS, w_c, w_op, w_un, w_anil, w_acons, w_tup, w_lst, w_call, w_callU, w_isi, w_meth, w_tru, w_bool, w_notS, w_andS, w_orS, w_ifx, w_andV, w_orV, w_notV, w_chain, wp_ok, wp_bad, wp_some, wp_none, wp_liftif, wp_if, asB_b, wp_noex, add_ii, sub_ii, mul_ii, fdiv_ii, mod_ii, pow_ii, neg_i, cmp_ii, lt_ii, le_ii, gt_ii, ge_ii, le_cc, muls_ii, muls_si, ins_cs, iadd_ii, isub_ii, w_onone, w_osome, w_sl, sl_s, sl_t, s_aug, eq_ss, len_s, ix_s, add_ss, str_s, tuple_t, list_t, is_n, not_n, non_n, non_i, non_b, non_s, non_t, non_r, abs_i, max_ii, min_ii, int_i, int_b, gcd_ii, len_t, ix_t, eq_v, ne_v, eq_ii, eq_bb, eq_nn, eq_in, eq_ni, iv_n_list, iv_n_tuple, iv_n_bool, iv_n_str, iv_n_int, okt_n, iv_b_list, iv_b_tuple, iv_b_bool, iv_b_str, iv_b_int, okt_b, iv_i_list, iv_i_tuple, iv_i_bool, iv_i_str, iv_i_int, okt_i, iv_s_list, iv_s_tuple, iv_s_bool, iv_s_str, iv_s_int, okt_s, iv_t_list, iv_t_tuple, iv_t_bool, iv_t_str, iv_t_int, okt_t, iv_r_list, iv_r_tuple, iv_r_bool, iv_r_str, iv_r_int, tru_b, tru_i, tru_n, tru_t, Option.map_some, Option.map_none, List.map_cons, List.map_nil, List.length_cons, List.length_nil, List.set_cons_zero, List.set_cons_succ, List.cons_append, List.nil_append, List.replicate, Nat.reduceAdd, Nat.reduceSub, Nat.reduceLeDiff, true_and, and_true, decide_eq_true_eq, reduceIte, Bool.false_eq_true, Bool.not_true, Bool.not_false, decide_true, decide_false]
    (repeat first | rw [if_pos (by decide)] | rw [fmod_pos (by decide)])
    try simp -dsimp only [pix PD e6, at0, at1, at2, at3, at4, at5, at6, wp_fn, s_nil, s_brk, s_cnt, s_expr, s_ret, s_retN, s_if, s_asn, s_par, s_asg, g_nm, g_nil, g_cons, g_tupT, g_subW, w_v0, w_vS, w_c, w_op, w_un, w_anil, w_acons, w_tup, w_lst, w_call, w_callU, w_isi, w_meth, w_tru, w_bool, w_notS, w_andS, w_orS, w_ifx, w_andV, w_orV, w_notV, w_chain, wp_ok, wp_bad, wp_some, wp_none, wp_liftif, wp_if, asB_b, wp_noex, add_ii, sub_ii, mul_ii, fdiv_ii, mod_ii, pow_ii, neg_i, cmp_ii, lt_ii, le_ii, gt_ii, ge_ii, le_cc, muls_ii, muls_si, ins_cs, iadd_ii, isub_ii, w_onone, w_osome, w_sl, sl_s, sl_t, s_aug, eq_ss, len_s, ix_s, add_ss, str_s, tuple_t, list_t, is_n, not_n, non_n, non_i, non_b, non_s, non_t, non_r, abs_i, max_ii, min_ii, int_i, int_b, gcd_ii, len_t, ix_t, eq_v, ne_v, eq_ii, eq_bb, eq_nn, eq_in, eq_ni, iv_n_list, iv_n_tuple, iv_n_bool, iv_n_str, iv_n_int, okt_n, iv_b_list, iv_b_tuple, iv_b_bool, iv_b_str, iv_b_int, okt_b, iv_i_list, iv_i_tuple, iv_i_bool, iv_i_str, iv_i_int, okt_i, iv_s_list, iv_s_tuple, iv_s_bool, iv_s_str, iv_s_int, okt_s, iv_t_list, iv_t_tuple, iv_t_bool, iv_t_str, iv_t_int, okt_t, iv_r_list, iv_r_tuple, iv_r_bool, iv_r_str, iv_r_int, tru_b, tru_i, tru_n, tru_t, Option.map_some, Option.map_none, List.map_cons, List.map_nil, List.length_cons, List.length_nil, List.set_cons_zero, List.set_cons_succ, List.cons_append, List.nil_append, List.replicate, Nat.reduceAdd, Nat.reduceSub, Nat.reduceLeDiff, true_and, and_true, decide_eq_true_eq, reduceIte, Bool.false_eq_true, Bool.not_true, Bool.not_false, decide_true, decide_false]
    (repeat first | rw [if_pos (by decide)] | rw [fmod_pos (by decide)])
    walk_at "w0"
    refine ⟨.clk ⟨q, y, rc.start - u5 % 9, rc.start + 40 + u3 % 60, rc.start + 40 + u3 % 60 - 3 + u6 % 7⟩, rfl, ⟨by show q < R.length; omega, by show y < L.length; omega, ?_, ?_, ?_, ?_, ?_, ?_⟩, G1⟩
    all_goals try dsimp only
    all_goals omega
  · rw [if_neg c0]
    walk_at "w0"
    rw [s_seq]
    walk_at "w0"
    by_cases c1 : kd = 1
    · rw [if_pos c1]
      try simp -dsimp only [pix PD e3, at0, at1, at2, at3, at4, at5, at6, wp_fn, s_nil, s_brk, s_cnt, s_expr, s_ret, s_retN, s_if, s_asn, s_par, s_asg, g_nm, g_nil, g_cons, g_tupT, g_subW, w_v0, w_vS, w_c, w_op, w_un, w_anil, w_acons, w_tup, w_lst, w_call, w_callU, w_isi, w_meth, w_tru, w_bool, w_notS, w_andS, w_orS, w_ifx, w_andV, w_orV, w_notV, w_chain, wp_ok, wp_bad, wp_some, wp_none, wp_liftif, wp_if, asB_b, wp_noex, add_ii, sub_ii, mul_ii, fdiv_ii, mod_ii, pow_ii, neg_i, cmp_ii, lt_ii, le_ii, gt_ii, ge_ii, le_cc, muls_ii, muls_si, ins_cs, iadd_ii, isub_ii, w_onone, w_osome, w_sl, sl_s, sl_t, s_aug, eq_ss, len_s, ix_s, add_ss, str_s, tuple_t, list_t, is_n, not_n, non_n, non_i, non_b, non_s, non_t, non_r, abs_i, max_ii, min_ii, int_i, int_b, gcd_ii, len_t, ix_t, eq_v, ne_v, eq_ii, eq_bb, eq_nn, eq_in, eq_ni, iv_n_list, iv_n_tuple, iv_n_bool, iv_n_str, iv_n_int, okt_n, iv_b_list, iv_b_tuple, iv_b_bool, iv_b_str, iv_b_int, okt_b, iv_i_list, iv_i_tuple, iv_i_bool, iv_i_str, iv_i_int, okt_i, iv_s_list, iv_s_tuple, iv_s_bool, iv_s_str, iv_s_int, okt_s, iv_t_list, iv_t_tuple, iv_t_bool, iv_t_str, iv_t_int, okt_t, iv_r_list, iv_r_tuple, iv_r_bool, iv_r_str, iv_r_int, tru_b, tru_i, tru_n, tru_t, Option.map_some, Option.map_none, List.map_cons, List.map_nil, List.length_cons, List.length_nil, List.set_cons_zero, List.set_cons_succ, List.cons_append, List.nil_append, List.replicate, Nat.reduceAdd, Nat.reduceSub, Nat.reduceLeDiff, true_and, and_true, decide_eq_true_eq, reduceIte, Bool.false_eq_true, Bool.not_true, Bool.not_false, decide_true, decide_false]
      rw [if_pos (by decide), fmod_pos (by decide)]
      walk_at "w0"
      exact ⟨.stk q bd.ring (u3 % 50), rfl, ⟨by omega, hg, by omega, by omega⟩, G1⟩
    · rw [if_neg c1]
      walk_at "w0"
      rw [s_seq]
      walk_at "w0"
      by_cases c2 : kd = 2
      · rw [if_pos c2]
        walk_at "w0"
        have PD3 := get_old (o := MO.lst [PV.str [97, 110, 110], .str [98, 111], .str [99, 121]]) PD
        have q5 := get_new (m := m2) (o := MO.lst [PV.str [97, 110, 110], .str [98, 111], .str [99, 121]])
        have G3 := G1.push (MO.lst [PV.str [97, 110, 110], .str [98, 111], .str [99, 121]])
        generalize m2 ++ [MO.lst [PV.str [97, 110, 110], .str [98, 111], .str [99, 121]]] = m3 at *
        generalize m2.length = k3 at *
        try simp -dsimp only [pix PD3 e3, at0, at1, at2, at3, at4, at5, at6, wp_fn, s_nil, s_brk, s_cnt, s_expr, s_ret, s_retN, s_if, s_asn, s_par, s_asg, g_nm, g_nil, g_cons, g_tupT, g_subW, w_v0, w_vS, w_c, w_op, w_un, w_anil, w_acons, w_tup, w_lst, w_call, w_callU, w_isi, w_meth, w_tru, w_bool, w_notS, w_andS, w_orS, w_ifx, w_andV, w_orV, w_notV, w_chain, wp_ok, wp_bad, wp_some, wp_none, wp_liftif, wp_if, asB_b, wp_noex, add_ii, sub_ii, mul_ii, fdiv_ii, mod_ii, pow_ii, neg_i, cmp_ii, lt_ii, le_ii, gt_ii, ge_ii, le_cc, muls_ii, muls_si, ins_cs, iadd_ii, isub_ii, w_onone, w_osome, w_sl, sl_s, sl_t, s_aug, eq_ss, len_s, ix_s, add_ss, str_s, tuple_t, list_t, is_n, not_n, non_n, non_i, non_b, non_s, non_t, non_r, abs_i, max_ii, min_ii, int_i, int_b, gcd_ii, len_t, ix_t, eq_v, ne_v, eq_ii, eq_bb, eq_nn, eq_in, eq_ni, iv_n_list, iv_n_tuple, iv_n_bool, iv_n_str, iv_n_int, okt_n, iv_b_list, iv_b_tuple, iv_b_bool, iv_b_str, iv_b_int, okt_b, iv_i_list, iv_i_tuple, iv_i_bool, iv_i_str, iv_i_int, okt_i, iv_s_list, iv_s_tuple, iv_s_bool, iv_s_str, iv_s_int, okt_s, iv_t_list, iv_t_tuple, iv_t_bool, iv_t_str, iv_t_int, okt_t, iv_r_list, iv_r_tuple, iv_r_bool, iv_r_str, iv_r_int, tru_b, tru_i, tru_n, tru_t, Option.map_some, Option.map_none, List.map_cons, List.map_nil, List.length_cons, List.length_nil, List.set_cons_zero, List.set_cons_succ, List.cons_append, List.nil_append, List.replicate, Nat.reduceAdd, Nat.reduceSub, Nat.reduceLeDiff, true_and, and_true, decide_eq_true_eq, reduceIte, Bool.false_eq_true, Bool.not_true, Bool.not_false, decide_true, decide_false]
        rw [if_pos (by decide), fmod_pos (by decide)]
        walk_at "w0"
        obtain ⟨w, ew, hw⟩ := pickS3 q5 (v := u3 % 3) (by omega) (by omega)
        try simp -dsimp only [ew, at0, at1, at2, at3, at4, at5, at6, wp_fn, s_nil, s_brk, s_cnt, s_expr, s_ret, s_retN, s_if, s_asn, s_par, s_asg, g_nm, g_nil, g_cons, g_tupT, g_subW, w_v0, w_vS, w_c, w_op, w_un, w_anil, w_acons, w_tup, w_lst, w_call, w_callU, w_isi, w_meth, w_tru, w_bool, w_notS, w_andS, w_orS, w_ifx, w_andV, w_orV, w_notV, w_chain, wp_ok, wp_bad, wp_some, wp_none, wp_liftif, wp_if, asB_b, wp_noex, add_ii, sub_ii, mul_ii, fdiv_ii, mod_ii, pow_ii, neg_i, cmp_ii, lt_ii, le_ii, gt_ii, ge_ii, le_cc, muls_ii, muls_si, ins_cs, iadd_ii, isub_ii, w_onone, w_osome, w_sl, sl_s, sl_t, s_aug, eq_ss, len_s, ix_s, add_ss, str_s, tuple_t, list_t, is_n, not_n, non_n, non_i, non_b, non_s, non_t, non_r, abs_i, max_ii, min_ii, int_i, int_b, gcd_ii, len_t, ix_t, eq_v, ne_v, eq_ii, eq_bb, eq_nn, eq_in, eq_ni, iv_n_list, iv_n_tuple, iv_n_bool, iv_n_str, iv_n_int, okt_n, iv_b_list, iv_b_tuple, iv_b_bool, iv_b_str, iv_b_int, okt_b, iv_i_list, iv_i_tuple, iv_i_bool, iv_i_str, iv_i_int, okt_i, iv_s_list, iv_s_tuple, iv_s_bool, iv_s_str, iv_s_int, okt_s, iv_t_list, iv_t_tuple, iv_t_bool, iv_t_str, iv_t_int, okt_t, iv_r_list, iv_r_tuple, iv_r_bool, iv_r_str, iv_r_int, tru_b, tru_i, tru_n, tru_t, Option.map_some, Option.map_none, List.map_cons, List.map_nil, List.length_cons, List.length_nil, List.set_cons_zero, List.set_cons_succ, List.cons_append, List.nil_append, List.replicate, Nat.reduceAdd, Nat.reduceSub, Nat.reduceLeDiff, true_and, and_true, decide_eq_true_eq, reduceIte, Bool.false_eq_true, Bool.not_true, Bool.not_false, decide_true, decide_false]
        rcases hw with rfl | rfl | rfl
        · exact ⟨.tra bd.ring q _, rfl, ⟨hg, by omega, .inl rfl⟩, G3⟩
        · exact ⟨.tra bd.ring q _, rfl, ⟨hg, by omega, .inr (.inl rfl)⟩, G3⟩
        · exact ⟨.tra bd.ring q _, rfl, ⟨hg, by omega, .inr (.inr rfl)⟩, G3⟩
      · rw [if_neg c2]
        try simp -dsimp only [pix PD e3, at0, at1, at2, at3, at4, at5, at6, wp_fn, s_nil, s_brk, s_cnt, s_expr, s_ret, s_retN, s_if, s_asn, s_par, s_asg, g_nm, g_nil, g_cons, g_tupT, g_subW, w_v0, w_vS, w_c, w_op, w_un, w_anil, w_acons, w_tup, w_lst, w_call, w_callU, w_isi, w_meth, w_tru, w_bool, w_notS, w_andS, w_orS, w_ifx, w_andV, w_orV, w_notV, w_chain, wp_ok, wp_bad, wp_some, wp_none, wp_liftif, wp_if, asB_b, wp_noex, add_ii, sub_ii, mul_ii, fdiv_ii, mod_ii, pow_ii, neg_i, cmp_ii, lt_ii, le_ii, gt_ii, ge_ii, le_cc, muls_ii, muls_si, ins_cs, iadd_ii, isub_ii, w_onone, w_osome, w_sl, sl_s, sl_t, s_aug, eq_ss, len_s, ix_s, add_ss, str_s, tuple_t, list_t, is_n, not_n, non_n, non_i, non_b, non_s, non_t, non_r, abs_i, max_ii, min_ii, int_i, int_b, gcd_ii, len_t, ix_t, eq_v, ne_v, eq_ii, eq_bb, eq_nn, eq_in, eq_ni, iv_n_list, iv_n_tuple, iv_n_bool, iv_n_str, iv_n_int, okt_n, iv_b_list, iv_b_tuple, iv_b_bool, iv_b_str, iv_b_int, okt_b, iv_i_list, iv_i_tuple, iv_i_bool, iv_i_str, iv_i_int, okt_i, iv_s_list, iv_s_tuple, iv_s_bool, iv_s_str, iv_s_int, okt_s, iv_t_list, iv_t_tuple, iv_t_bool, iv_t_str, iv_t_int, okt_t, iv_r_list, iv_r_tuple, iv_r_bool, iv_r_str, iv_r_int, tru_b, tru_i, tru_n, tru_t, Option.map_some, Option.map_none, List.map_cons, List.map_nil, List.length_cons, List.length_nil, List.set_cons_zero, List.set_cons_succ, List.cons_append, List.nil_append, List.replicate, Nat.reduceAdd, Nat.reduceSub, Nat.reduceLeDiff, true_and, and_true, decide_eq_true_eq, reduceIte, Bool.false_eq_true, Bool.not_true, Bool.not_false, decide_true, decide_false]
        (repeat first | rw [if_pos (by decide)] | rw [fmod_pos (by decide)])
        try simp -dsimp only [pix PD e3, at0, at1, at2, at3, at4, at5, at6, wp_fn, s_nil, s_brk, s_cnt, s_expr, s_ret, s_retN, s_if, s_asn, s_par, s_asg, g_nm, g_nil, g_cons, g_tupT, g_subW, w_v0, w_vS, w_c, w_op, w_un, w_anil, w_acons, w_tup, w_lst, w_call, w_callU, w_isi, w_meth, w_tru, w_bool, w_notS, w_andS, w_orS, w_ifx, w_andV, w_orV, w_notV, w_chain, wp_ok, wp_bad, wp_some, wp_none, wp_liftif, wp_if, asB_b, wp_noex, add_ii, sub_ii, mul_ii, fdiv_ii, mod_ii, pow_ii, neg_i, cmp_ii, lt_ii, le_ii, gt_ii, ge_ii, le_cc, muls_ii, muls_si, ins_cs, iadd_ii, isub_ii, w_onone, w_osome, w_sl, sl_s, sl_t, s_aug, eq_ss, len_s, ix_s, add_ss, str_s, tuple_t, list_t, is_n, not_n, non_n, non_i, non_b, non_s, non_t, non_r, abs_i, max_ii, min_ii, int_i, int_b, gcd_ii, len_t, ix_t, eq_v, ne_v, eq_ii, eq_bb, eq_nn, eq_in, eq_ni, iv_n_list, iv_n_tuple, iv_n_bool, iv_n_str, iv_n_int, okt_n, iv_b_list, iv_b_tuple, iv_b_bool, iv_b_str, iv_b_int, okt_b, iv_i_list, iv_i_tuple, iv_i_bool, iv_i_str, iv_i_int, okt_i, iv_s_list, iv_s_tuple, iv_s_bool, iv_s_str, iv_s_int, okt_s, iv_t_list, iv_t_tuple, iv_t_bool, iv_t_str, iv_t_int, okt_t, iv_r_list, iv_r_tuple, iv_r_bool, iv_r_str, iv_r_int, tru_b, tru_i, tru_n, tru_t, Option.map_some, Option.map_none, List.map_cons, List.map_nil, List.length_cons, List.length_nil, List.set_cons_zero, List.set_cons_succ, List.cons_append, List.nil_append, List.replicate, Nat.reduceAdd, Nat.reduceSub, Nat.reduceLeDiff, true_and, and_true, decide_eq_true_eq, reduceIte, Bool.false_eq_true, Bool.not_true, Bool.not_false, decide_true, decide_false]
        (repeat first | rw [if_pos (by decide)] | rw [fmod_pos (by decide)])
        walk_at "w0"
        have PD3 := get_old (o := MO.lst [PV.int (rc.start + u3 % 90), .non, .int (rc.start + u3 % 40)]) PD
        have q5 := get_new (m := m2) (o := MO.lst [PV.int (rc.start + u3 % 90), .non, .int (rc.start + u3 % 40)])
        have G3 := G1.push (MO.lst [PV.int (rc.start + u3 % 90), .non, .int (rc.start + u3 % 40)])
        generalize m2 ++ [MO.lst [PV.int (rc.start + u3 % 90), .non, .int (rc.start + u3 % 40)]] = m3 at *
        generalize m2.length = k3 at *
        try simp -dsimp only [pix PD3 e4, at0, at1, at2, at3, at4, at5, at6, wp_fn, s_nil, s_brk, s_cnt, s_expr, s_ret, s_retN, s_if, s_asn, s_par, s_asg, g_nm, g_nil, g_cons, g_tupT, g_subW, w_v0, w_vS, w_c, w_op, w_un, w_anil, w_acons, w_tup, w_lst, w_call, w_callU, w_isi, w_meth, w_tru, w_bool, w_notS, w_andS, w_orS, w_ifx, w_andV, w_orV, w_notV, w_chain, wp_ok, wp_bad, wp_some, wp_none, wp_liftif, wp_if, asB_b, wp_noex, add_ii, sub_ii, mul_ii, fdiv_ii, mod_ii, pow_ii, neg_i, cmp_ii, lt_ii, le_ii, gt_ii, ge_ii, le_cc, muls_ii, muls_si, ins_cs, iadd_ii, isub_ii, w_onone, w_osome, w_sl, sl_s, sl_t, s_aug, eq_ss, len_s, ix_s, add_ss, str_s, tuple_t, list_t, is_n, not_n, non_n, non_i, non_b, non_s, non_t, non_r, abs_i, max_ii, min_ii, int_i, int_b, gcd_ii, len_t, ix_t, eq_v, ne_v, eq_ii, eq_bb, eq_nn, eq_in, eq_ni, iv_n_list, iv_n_tuple, iv_n_bool, iv_n_str, iv_n_int, okt_n, iv_b_list, iv_b_tuple, iv_b_bool, iv_b_str, iv_b_int, okt_b, iv_i_list, iv_i_tuple, iv_i_bool, iv_i_str, iv_i_int, okt_i, iv_s_list, iv_s_tuple, iv_s_bool, iv_s_str, iv_s_int, okt_s, iv_t_list, iv_t_tuple, iv_t_bool, iv_t_str, iv_t_int, okt_t, iv_r_list, iv_r_tuple, iv_r_bool, iv_r_str, iv_r_int, tru_b, tru_i, tru_n, tru_t, Option.map_some, Option.map_none, List.map_cons, List.map_nil, List.length_cons, List.length_nil, List.set_cons_zero, List.set_cons_succ, List.cons_append, List.nil_append, List.replicate, Nat.reduceAdd, Nat.reduceSub, Nat.reduceLeDiff, true_and, and_true, decide_eq_true_eq, reduceIte, Bool.false_eq_true, Bool.not_true, Bool.not_false, decide_true, decide_false]
        rw [if_pos (by decide), fmod_pos (by decide)]
        walk_at "w0"
        obtain ⟨w, ew, hw⟩ := pickS3 q5 (v := u4 % 3) (by omega) (by omega)
        try simp -dsimp only [ew, at0, at1, at2, at3, at4, at5, at6, wp_fn, s_nil, s_brk, s_cnt, s_expr, s_ret, s_retN, s_if, s_asn, s_par, s_asg, g_nm, g_nil, g_cons, g_tupT, g_subW, w_v0, w_vS, w_c, w_op, w_un, w_anil, w_acons, w_tup, w_lst, w_call, w_callU, w_isi, w_meth, w_tru, w_bool, w_notS, w_andS, w_orS, w_ifx, w_andV, w_orV, w_notV, w_chain, wp_ok, wp_bad, wp_some, wp_none, wp_liftif, wp_if, asB_b, wp_noex, add_ii, sub_ii, mul_ii, fdiv_ii, mod_ii, pow_ii, neg_i, cmp_ii, lt_ii, le_ii, gt_ii, ge_ii, le_cc, muls_ii, muls_si, ins_cs, iadd_ii, isub_ii, w_onone, w_osome, w_sl, sl_s, sl_t, s_aug, eq_ss, len_s, ix_s, add_ss, str_s, tuple_t, list_t, is_n, not_n, non_n, non_i, non_b, non_s, non_t, non_r, abs_i, max_ii, min_ii, int_i, int_b, gcd_ii, len_t, ix_t, eq_v, ne_v, eq_ii, eq_bb, eq_nn, eq_in, eq_ni, iv_n_list, iv_n_tuple, iv_n_bool, iv_n_str, iv_n_int, okt_n, iv_b_list, iv_b_tuple, iv_b_bool, iv_b_str, iv_b_int, okt_b, iv_i_list, iv_i_tuple, iv_i_bool, iv_i_str, iv_i_int, okt_i, iv_s_list, iv_s_tuple, iv_s_bool, iv_s_str, iv_s_int, okt_s, iv_t_list, iv_t_tuple, iv_t_bool, iv_t_str, iv_t_int, okt_t, iv_r_list, iv_r_tuple, iv_r_bool, iv_r_str, iv_r_int, tru_b, tru_i, tru_n, tru_t, Option.map_some, Option.map_none, List.map_cons, List.map_nil, List.length_cons, List.length_nil, List.set_cons_zero, List.set_cons_succ, List.cons_append, List.nil_append, List.replicate, Nat.reduceAdd, Nat.reduceSub, Nat.reduceLeDiff, true_and, and_true, decide_eq_true_eq, reduceIte, Bool.false_eq_true, Bool.not_true, Bool.not_false, decide_true, decide_false]
        refine ⟨.slp q bd.ring w, rfl, ⟨by omega, hg, ?_⟩, G3⟩
        rcases hw with rfl | rfl | rfl
        · exact .inr ⟨_, rfl, by omega, by omega⟩
        · exact .inl rfl
        · exact .inr ⟨_, rfl, by omega, by omega⟩
theorem cut1 {x : PV} {xs : List PV} : cut (x :: xs) (some 1) none = xs := cut_tl (i := 1) (xs := x :: xs) (by simp)
theorem kinds_r {m : MH} (e : En) : ninTxv (.str e.kind) (.tup [.str [99, 108, 111, 99, 107], .str [115, 108, 105, 112], .str [115, 116, 97, 107, 101], .str [116, 114, 97, 110, 115, 102, 101, 114]]) m = some (.bl false, m) := by
  cases e <;> rfl
def En.size : En → Int
  | .clk _ => 6
  | _ => 4
theorem sizes_r {m : MH} (e : En) : kgetv T_SIZES (.str e.kind) m = some (.int e.size, m) := by
  cases e <;> rfl
theorem len_rest (e : En) : ((e.rest.length + 1 : Nat) : Int) = e.size := by cases e <;> rfl
section
variable {m : MH} {L : List Loft} {B : List Bird} {R : List Race}
theorem isrightclk_ok {c : Clk} (h : ClkOk L R c) : WP (f_is_right_clock [clubPV L B R, .tup (En.clk c).rest] m) (fun x m' => x = .bl true ∧ m' = m) NoE := by
  have ck := ckc_ok (m := m) (L := L) (B := B) (R := R) (v0 := .int (c.race : Nat)) (v1 := .int (c.loft : Nat)) (v2 := .int c.b) (v3 := .int c.e) (v4 := .int c.s) (nr_int _) (nr_int _) (nr_int _) (nr_int _) (nr_int _)
  have du : dueC R.length L.length (.int (c.race : Nat)) (.int (c.loft : Nat)) (.int c.b) (.int c.e) (.int c.s) = none := by
    have h1 := h.race; have h2 := h.loft; have h3 := h.b0; have h4 := h.b1; have h5 := h.e; have h6 := h.s0; have h7 := h.s1; have h8 := h.b2
    unfold dueC num frm
    simp only [Bool.and_eq_true, decide_eq_true_eq]
    rw [if_pos (by omega), if_pos (by omega), if_pos (by omega), if_pos (by omega), if_pos (by omega)]
  unfold f_is_right_clock b_is_right_clock
  walk_at "w1"
  rw [s_seq]
  refine s_tryO ?_
  try simp -dsimp only [w_callX, at0, at1, at2, at3, at4, at5, at6, wp_fn, s_nil, s_brk, s_cnt, s_expr, s_ret, s_retN, s_if, s_asn, s_par, s_asg, g_nm, g_nil, g_cons, g_tupT, g_subW, w_v0, w_vS, w_c, w_op, w_un, w_anil, w_acons, w_tup, w_lst, w_call, w_callU, w_isi, w_meth, w_tru, w_bool, w_notS, w_andS, w_orS, w_ifx, w_andV, w_orV, w_notV, w_chain, wp_ok, wp_bad, wp_some, wp_none, wp_liftif, wp_if, asB_b, wp_noex, add_ii, sub_ii, mul_ii, fdiv_ii, mod_ii, pow_ii, neg_i, cmp_ii, lt_ii, le_ii, gt_ii, ge_ii, le_cc, muls_ii, muls_si, ins_cs, iadd_ii, isub_ii, w_onone, w_osome, w_sl, sl_s, sl_t, s_aug, eq_ss, len_s, ix_s, add_ss, str_s, tuple_t, list_t, is_n, not_n, non_n, non_i, non_b, non_s, non_t, non_r, abs_i, max_ii, min_ii, int_i, int_b, gcd_ii, len_t, ix_t, eq_v, ne_v, eq_ii, eq_bb, eq_nn, eq_in, eq_ni, iv_n_list, iv_n_tuple, iv_n_bool, iv_n_str, iv_n_int, okt_n, iv_b_list, iv_b_tuple, iv_b_bool, iv_b_str, iv_b_int, okt_b, iv_i_list, iv_i_tuple, iv_i_bool, iv_i_str, iv_i_int, okt_i, iv_s_list, iv_s_tuple, iv_s_bool, iv_s_str, iv_s_int, okt_s, iv_t_list, iv_t_tuple, iv_t_bool, iv_t_str, iv_t_int, okt_t, iv_r_list, iv_r_tuple, iv_r_bool, iv_r_str, iv_r_int, tru_b, tru_i, tru_n, tru_t, Option.map_some, Option.map_none, List.map_cons, List.map_nil, List.length_cons, List.length_nil, List.set_cons_zero, List.set_cons_succ, List.cons_append, List.nil_append, List.replicate, Nat.reduceAdd, Nat.reduceSub, Nat.reduceLeDiff, true_and, and_true, decide_eq_true_eq, reduceIte, Bool.false_eq_true, Bool.not_true, Bool.not_false, decide_true, decide_false]
  refine wp_mono2 ck ?_ ?_
  · rintro x m' ⟨rfl, _, rfl⟩
    walk_at "w0"
  · rintro c fs m' ⟨_, t, _, e, _⟩
    rw [du] at e
    cases e
theorem israce_ok {r : Nat} (h : r < R.length) : WP (f_is_race [clubPV L B R, .int (r : Nat)] m) (fun x m' => x = .bl true ∧ m' = m) NoE := by
  unfold f_is_race b_is_race clubPV
  walk_at "w0"
  rw [List.length_map]
  refine (isfrom_ok (nr_int _)).mono ?_
  rintro _ m ⟨rfl, rfl⟩
  try simp -dsimp only [frm, at0, at1, at2, at3, at4, at5, at6, wp_fn, s_nil, s_brk, s_cnt, s_expr, s_ret, s_retN, s_if, s_asn, s_par, s_asg, g_nm, g_nil, g_cons, g_tupT, g_subW, w_v0, w_vS, w_c, w_op, w_un, w_anil, w_acons, w_tup, w_lst, w_call, w_callU, w_isi, w_meth, w_tru, w_bool, w_notS, w_andS, w_orS, w_ifx, w_andV, w_orV, w_notV, w_chain, wp_ok, wp_bad, wp_some, wp_none, wp_liftif, wp_if, asB_b, wp_noex, add_ii, sub_ii, mul_ii, fdiv_ii, mod_ii, pow_ii, neg_i, cmp_ii, lt_ii, le_ii, gt_ii, ge_ii, le_cc, muls_ii, muls_si, ins_cs, iadd_ii, isub_ii, w_onone, w_osome, w_sl, sl_s, sl_t, s_aug, eq_ss, len_s, ix_s, add_ss, str_s, tuple_t, list_t, is_n, not_n, non_n, non_i, non_b, non_s, non_t, non_r, abs_i, max_ii, min_ii, int_i, int_b, gcd_ii, len_t, ix_t, eq_v, ne_v, eq_ii, eq_bb, eq_nn, eq_in, eq_ni, iv_n_list, iv_n_tuple, iv_n_bool, iv_n_str, iv_n_int, okt_n, iv_b_list, iv_b_tuple, iv_b_bool, iv_b_str, iv_b_int, okt_b, iv_i_list, iv_i_tuple, iv_i_bool, iv_i_str, iv_i_int, okt_i, iv_s_list, iv_s_tuple, iv_s_bool, iv_s_str, iv_s_int, okt_s, iv_t_list, iv_t_tuple, iv_t_bool, iv_t_str, iv_t_int, okt_t, iv_r_list, iv_r_tuple, iv_r_bool, iv_r_str, iv_r_int, tru_b, tru_i, tru_n, tru_t, Option.map_some, Option.map_none, List.map_cons, List.map_nil, List.length_cons, List.length_nil, List.set_cons_zero, List.set_cons_succ, List.cons_append, List.nil_append, List.replicate, Nat.reduceAdd, Nat.reduceSub, Nat.reduceLeDiff, true_and, and_true, decide_eq_true_eq, reduceIte, Bool.false_eq_true, Bool.not_true, Bool.not_false, decide_true, decide_false]
  simp
  omega
theorem isringT {g : Int} (hB : B.length ≤ 100) (h : g ∈ B.map Bird.ring) : WP (f_is_ring [clubPV L B R, .int g] m) (fun x m' => x = .bl true ∧ Ap m m') NoE := by
  refine (isring_ok (nr_int _) hB).mono ?_
  rintro _ m' ⟨rfl, A⟩
  exact ⟨by rw [show ringIn B (.int g) = true from decide_eq_true h], A⟩
theorem isowner_ok {o : List Nat} (h : o = [97, 110, 110] ∨ o = [98, 111] ∨ o = [99, 121]) : WP (f_is_owner [.str o] m) (fun x m' => x = .bl true ∧ Ap m m') NoE := by
  have ho : o.length ≤ 8 ∧ o ≠ [] ∧ ∀ c ∈ o, lo c := by
    rcases h with rfl | rfl | rfl <;> exact ⟨by decide, by decide, by decide⟩
  have hr : Rd o [(sWord, o)] [] := by
    have q : Rd (o ++ []) ((if o.length ≤ 8 then sWord else sBad, o) :: []) [] := .tok (.word ho.2.1 ho.2.2 fun c r e => by cases e) .nil
    rw [if_pos ho.1, List.append_nil] at q
    exact q
  unfold f_is_owner b_is_owner
  walk_at "w0"
  refine (tokens_ok hr (by omega)).mono ?_
  rintro _ _ ⟨rfl, rfl⟩
  try simp -dsimp only [tokPV, at0, at1, at2, at3, at4, at5, at6, wp_fn, s_nil, s_brk, s_cnt, s_expr, s_ret, s_retN, s_if, s_asn, s_par, s_asg, g_nm, g_nil, g_cons, g_tupT, g_subW, w_v0, w_vS, w_c, w_op, w_un, w_anil, w_acons, w_tup, w_lst, w_call, w_callU, w_isi, w_meth, w_tru, w_bool, w_notS, w_andS, w_orS, w_ifx, w_andV, w_orV, w_notV, w_chain, wp_ok, wp_bad, wp_some, wp_none, wp_liftif, wp_if, asB_b, wp_noex, add_ii, sub_ii, mul_ii, fdiv_ii, mod_ii, pow_ii, neg_i, cmp_ii, lt_ii, le_ii, gt_ii, ge_ii, le_cc, muls_ii, muls_si, ins_cs, iadd_ii, isub_ii, w_onone, w_osome, w_sl, sl_s, sl_t, s_aug, eq_ss, len_s, ix_s, add_ss, str_s, tuple_t, list_t, is_n, not_n, non_n, non_i, non_b, non_s, non_t, non_r, abs_i, max_ii, min_ii, int_i, int_b, gcd_ii, len_t, ix_t, eq_v, ne_v, eq_ii, eq_bb, eq_nn, eq_in, eq_ni, iv_n_list, iv_n_tuple, iv_n_bool, iv_n_str, iv_n_int, okt_n, iv_b_list, iv_b_tuple, iv_b_bool, iv_b_str, iv_b_int, okt_b, iv_i_list, iv_i_tuple, iv_i_bool, iv_i_str, iv_i_int, okt_i, iv_s_list, iv_s_tuple, iv_s_bool, iv_s_str, iv_s_int, okt_s, iv_t_list, iv_t_tuple, iv_t_bool, iv_t_str, iv_t_int, okt_t, iv_r_list, iv_r_tuple, iv_r_bool, iv_r_str, iv_r_int, tru_b, tru_i, tru_n, tru_t, Option.map_some, Option.map_none, List.map_cons, List.map_nil, List.length_cons, List.length_nil, List.set_cons_zero, List.set_cons_succ, List.cons_append, List.nil_append, List.replicate, Nat.reduceAdd, Nat.reduceSub, Nat.reduceLeDiff, true_and, and_true, decide_eq_true_eq, reduceIte, Bool.false_eq_true, Bool.not_true, Bool.not_false, decide_true, decide_false]
  have q1 := get_old (o := MO.lst [.tup [.str [119, 111, 114, 100], .str o]]) (get_new (m := m) (o := MO.lst [.tup [.str sWord, .str o]]))
  have q2 := get_new (m := m ++ [MO.lst [.tup [.str sWord, .str o]]]) (o := MO.lst [.tup [.str [119, 111, 114, 100], .str o]])
  have A : Ap m ((m ++ [MO.lst [.tup [.str sWord, .str o]]]) ++ [MO.lst [.tup [.str [119, 111, 114, 100], .str o]]]) := Ap.one.trans Ap.one
  generalize (m ++ [MO.lst [.tup [.str sWord, .str o]]]) ++ [MO.lst [.tup [.str [119, 111, 114, 100], .str o]]] = m1 at *
  generalize (m ++ [MO.lst [.tup [.str sWord, .str o]]]).length = k1 at *
  rw [eq_lsts (seq_of_lst q1) (seq_of_lst q2) (.cons (dd_tup (n := 6) (.cons (dd_str (by intro c hc; simp only [sWord, List.mem_cons, List.not_mem_nil, or_false] at hc; omega)) (.cons (dd_str (ten_lt o h)) .nil))) .nil)]
  walk_at "w0"
  exact A
theorem isright_ok {e : En} (hC : ClubG L B R) (h : EnOk L B R e) : WP (f_is_right [clubPV L B R, e.pv] m) (fun x m' => x = .bl true ∧ Ap m m') NoE := by
  have hB : B.length ≤ 100 := by have := hC.b2; omega
  have hz := len_rest e
  have hk := kinds_r (m := m) e
  have hs := sizes_r (m := m) e
  unfold f_is_right b_is_right En.pv
  walk_at "w1"
  rw [s_seq]
  walk_at "w0"
  rw [s_seq]
  try simp -dsimp only [hk, hs, at0, at1, at2, at3, at4, at5, at6, wp_fn, s_nil, s_brk, s_cnt, s_expr, s_ret, s_retN, s_if, s_asn, s_par, s_asg, g_nm, g_nil, g_cons, g_tupT, g_subW, w_v0, w_vS, w_c, w_op, w_un, w_anil, w_acons, w_tup, w_lst, w_call, w_callU, w_isi, w_meth, w_tru, w_bool, w_notS, w_andS, w_orS, w_ifx, w_andV, w_orV, w_notV, w_chain, wp_ok, wp_bad, wp_some, wp_none, wp_liftif, wp_if, asB_b, wp_noex, add_ii, sub_ii, mul_ii, fdiv_ii, mod_ii, pow_ii, neg_i, cmp_ii, lt_ii, le_ii, gt_ii, ge_ii, le_cc, muls_ii, muls_si, ins_cs, iadd_ii, isub_ii, w_onone, w_osome, w_sl, sl_s, sl_t, s_aug, eq_ss, len_s, ix_s, add_ss, str_s, tuple_t, list_t, is_n, not_n, non_n, non_i, non_b, non_s, non_t, non_r, abs_i, max_ii, min_ii, int_i, int_b, gcd_ii, len_t, ix_t, eq_v, ne_v, eq_ii, eq_bb, eq_nn, eq_in, eq_ni, iv_n_list, iv_n_tuple, iv_n_bool, iv_n_str, iv_n_int, okt_n, iv_b_list, iv_b_tuple, iv_b_bool, iv_b_str, iv_b_int, okt_b, iv_i_list, iv_i_tuple, iv_i_bool, iv_i_str, iv_i_int, okt_i, iv_s_list, iv_s_tuple, iv_s_bool, iv_s_str, iv_s_int, okt_s, iv_t_list, iv_t_tuple, iv_t_bool, iv_t_str, iv_t_int, okt_t, iv_r_list, iv_r_tuple, iv_r_bool, iv_r_str, iv_r_int, tru_b, tru_i, tru_n, tru_t, Option.map_some, Option.map_none, List.map_cons, List.map_nil, List.length_cons, List.length_nil, List.set_cons_zero, List.set_cons_succ, List.cons_append, List.nil_append, List.replicate, Nat.reduceAdd, Nat.reduceSub, Nat.reduceLeDiff, true_and, and_true, decide_eq_true_eq, reduceIte, Bool.false_eq_true, Bool.not_true, Bool.not_false, decide_true, decide_false]
  rw [hz]
  try simp -dsimp only [ne_ii, at0, at1, at2, at3, at4, at5, at6, wp_fn, s_nil, s_brk, s_cnt, s_expr, s_ret, s_retN, s_if, s_asn, s_par, s_asg, g_nm, g_nil, g_cons, g_tupT, g_subW, w_v0, w_vS, w_c, w_op, w_un, w_anil, w_acons, w_tup, w_lst, w_call, w_callU, w_isi, w_meth, w_tru, w_bool, w_notS, w_andS, w_orS, w_ifx, w_andV, w_orV, w_notV, w_chain, wp_ok, wp_bad, wp_some, wp_none, wp_liftif, wp_if, asB_b, wp_noex, add_ii, sub_ii, mul_ii, fdiv_ii, mod_ii, pow_ii, neg_i, cmp_ii, lt_ii, le_ii, gt_ii, ge_ii, le_cc, muls_ii, muls_si, ins_cs, iadd_ii, isub_ii, w_onone, w_osome, w_sl, sl_s, sl_t, s_aug, eq_ss, len_s, ix_s, add_ss, str_s, tuple_t, list_t, is_n, not_n, non_n, non_i, non_b, non_s, non_t, non_r, abs_i, max_ii, min_ii, int_i, int_b, gcd_ii, len_t, ix_t, eq_v, ne_v, eq_ii, eq_bb, eq_nn, eq_in, eq_ni, iv_n_list, iv_n_tuple, iv_n_bool, iv_n_str, iv_n_int, okt_n, iv_b_list, iv_b_tuple, iv_b_bool, iv_b_str, iv_b_int, okt_b, iv_i_list, iv_i_tuple, iv_i_bool, iv_i_str, iv_i_int, okt_i, iv_s_list, iv_s_tuple, iv_s_bool, iv_s_str, iv_s_int, okt_s, iv_t_list, iv_t_tuple, iv_t_bool, iv_t_str, iv_t_int, okt_t, iv_r_list, iv_r_tuple, iv_r_bool, iv_r_str, iv_r_int, tru_b, tru_i, tru_n, tru_t, Option.map_some, Option.map_none, List.map_cons, List.map_nil, List.length_cons, List.length_nil, List.set_cons_zero, List.set_cons_succ, List.cons_append, List.nil_append, List.replicate, Nat.reduceAdd, Nat.reduceSub, Nat.reduceLeDiff, true_and, and_true, decide_eq_true_eq, reduceIte, Bool.false_eq_true, Bool.not_true, Bool.not_false, decide_true, decide_false]
  rw [s_seq]
  cases e with
  | clk c =>
    try simp -dsimp only [En.kind, kClk, En.size, at0, at1, at2, at3, at4, at5, at6, wp_fn, s_nil, s_brk, s_cnt, s_expr, s_ret, s_retN, s_if, s_asn, s_par, s_asg, g_nm, g_nil, g_cons, g_tupT, g_subW, w_v0, w_vS, w_c, w_op, w_un, w_anil, w_acons, w_tup, w_lst, w_call, w_callU, w_isi, w_meth, w_tru, w_bool, w_notS, w_andS, w_orS, w_ifx, w_andV, w_orV, w_notV, w_chain, wp_ok, wp_bad, wp_some, wp_none, wp_liftif, wp_if, asB_b, wp_noex, add_ii, sub_ii, mul_ii, fdiv_ii, mod_ii, pow_ii, neg_i, cmp_ii, lt_ii, le_ii, gt_ii, ge_ii, le_cc, muls_ii, muls_si, ins_cs, iadd_ii, isub_ii, w_onone, w_osome, w_sl, sl_s, sl_t, s_aug, eq_ss, len_s, ix_s, add_ss, str_s, tuple_t, list_t, is_n, not_n, non_n, non_i, non_b, non_s, non_t, non_r, abs_i, max_ii, min_ii, int_i, int_b, gcd_ii, len_t, ix_t, eq_v, ne_v, eq_ii, eq_bb, eq_nn, eq_in, eq_ni, iv_n_list, iv_n_tuple, iv_n_bool, iv_n_str, iv_n_int, okt_n, iv_b_list, iv_b_tuple, iv_b_bool, iv_b_str, iv_b_int, okt_b, iv_i_list, iv_i_tuple, iv_i_bool, iv_i_str, iv_i_int, okt_i, iv_s_list, iv_s_tuple, iv_s_bool, iv_s_str, iv_s_int, okt_s, iv_t_list, iv_t_tuple, iv_t_bool, iv_t_str, iv_t_int, okt_t, iv_r_list, iv_r_tuple, iv_r_bool, iv_r_str, iv_r_int, tru_b, tru_i, tru_n, tru_t, Option.map_some, Option.map_none, List.map_cons, List.map_nil, List.length_cons, List.length_nil, List.set_cons_zero, List.set_cons_succ, List.cons_append, List.nil_append, List.replicate, Nat.reduceAdd, Nat.reduceSub, Nat.reduceLeDiff, true_and, and_true, decide_eq_true_eq, reduceIte, Bool.false_eq_true, Bool.not_true, Bool.not_false, decide_true, decide_false]
    rw [cut1]
    refine (isrightclk_ok h).mono ?_
    rintro _ m ⟨rfl, rfl⟩
    walk_at "w0"
    exact Ap.refl
  | tra g r o =>
    try simp -dsimp only [En.kind, kTra, En.size, En.rest, at0, at1, at2, at3, at4, at5, at6, wp_fn, s_nil, s_brk, s_cnt, s_expr, s_ret, s_retN, s_if, s_asn, s_par, s_asg, g_nm, g_nil, g_cons, g_tupT, g_subW, w_v0, w_vS, w_c, w_op, w_un, w_anil, w_acons, w_tup, w_lst, w_call, w_callU, w_isi, w_meth, w_tru, w_bool, w_notS, w_andS, w_orS, w_ifx, w_andV, w_orV, w_notV, w_chain, wp_ok, wp_bad, wp_some, wp_none, wp_liftif, wp_if, asB_b, wp_noex, add_ii, sub_ii, mul_ii, fdiv_ii, mod_ii, pow_ii, neg_i, cmp_ii, lt_ii, le_ii, gt_ii, ge_ii, le_cc, muls_ii, muls_si, ins_cs, iadd_ii, isub_ii, w_onone, w_osome, w_sl, sl_s, sl_t, s_aug, eq_ss, len_s, ix_s, add_ss, str_s, tuple_t, list_t, is_n, not_n, non_n, non_i, non_b, non_s, non_t, non_r, abs_i, max_ii, min_ii, int_i, int_b, gcd_ii, len_t, ix_t, eq_v, ne_v, eq_ii, eq_bb, eq_nn, eq_in, eq_ni, iv_n_list, iv_n_tuple, iv_n_bool, iv_n_str, iv_n_int, okt_n, iv_b_list, iv_b_tuple, iv_b_bool, iv_b_str, iv_b_int, okt_b, iv_i_list, iv_i_tuple, iv_i_bool, iv_i_str, iv_i_int, okt_i, iv_s_list, iv_s_tuple, iv_s_bool, iv_s_str, iv_s_int, okt_s, iv_t_list, iv_t_tuple, iv_t_bool, iv_t_str, iv_t_int, okt_t, iv_r_list, iv_r_tuple, iv_r_bool, iv_r_str, iv_r_int, tru_b, tru_i, tru_n, tru_t, Option.map_some, Option.map_none, List.map_cons, List.map_nil, List.length_cons, List.length_nil, List.set_cons_zero, List.set_cons_succ, List.cons_append, List.nil_append, List.replicate, Nat.reduceAdd, Nat.reduceSub, Nat.reduceLeDiff, true_and, and_true, decide_eq_true_eq, reduceIte, Bool.false_eq_true, Bool.not_true, Bool.not_false, decide_true, decide_false]
    rw [if_neg (by decide)]
    walk_at "w0"
    rw [s_seq]
    walk_at "w0"
    rw [s_seq]
    walk_at "w0"
    refine (isringT hB h.1).mono ?_
    rintro _ m1 ⟨rfl, A1⟩
    walk_at "w0"
    refine (israce_ok h.2.1).mono ?_
    rintro _ m1 ⟨rfl, rfl⟩
    walk_at "w0"
    refine (isowner_ok h.2.2).mono ?_
    rintro _ m2 ⟨rfl, A2⟩
    walk_at "w0"
    exact A1.trans A2
  | stk r g u =>
    have hu := h.2.2
    try simp -dsimp only [En.kind, kStk, En.size, En.rest, at0, at1, at2, at3, at4, at5, at6, wp_fn, s_nil, s_brk, s_cnt, s_expr, s_ret, s_retN, s_if, s_asn, s_par, s_asg, g_nm, g_nil, g_cons, g_tupT, g_subW, w_v0, w_vS, w_c, w_op, w_un, w_anil, w_acons, w_tup, w_lst, w_call, w_callU, w_isi, w_meth, w_tru, w_bool, w_notS, w_andS, w_orS, w_ifx, w_andV, w_orV, w_notV, w_chain, wp_ok, wp_bad, wp_some, wp_none, wp_liftif, wp_if, asB_b, wp_noex, add_ii, sub_ii, mul_ii, fdiv_ii, mod_ii, pow_ii, neg_i, cmp_ii, lt_ii, le_ii, gt_ii, ge_ii, le_cc, muls_ii, muls_si, ins_cs, iadd_ii, isub_ii, w_onone, w_osome, w_sl, sl_s, sl_t, s_aug, eq_ss, len_s, ix_s, add_ss, str_s, tuple_t, list_t, is_n, not_n, non_n, non_i, non_b, non_s, non_t, non_r, abs_i, max_ii, min_ii, int_i, int_b, gcd_ii, len_t, ix_t, eq_v, ne_v, eq_ii, eq_bb, eq_nn, eq_in, eq_ni, iv_n_list, iv_n_tuple, iv_n_bool, iv_n_str, iv_n_int, okt_n, iv_b_list, iv_b_tuple, iv_b_bool, iv_b_str, iv_b_int, okt_b, iv_i_list, iv_i_tuple, iv_i_bool, iv_i_str, iv_i_int, okt_i, iv_s_list, iv_s_tuple, iv_s_bool, iv_s_str, iv_s_int, okt_s, iv_t_list, iv_t_tuple, iv_t_bool, iv_t_str, iv_t_int, okt_t, iv_r_list, iv_r_tuple, iv_r_bool, iv_r_str, iv_r_int, tru_b, tru_i, tru_n, tru_t, Option.map_some, Option.map_none, List.map_cons, List.map_nil, List.length_cons, List.length_nil, List.set_cons_zero, List.set_cons_succ, List.cons_append, List.nil_append, List.replicate, Nat.reduceAdd, Nat.reduceSub, Nat.reduceLeDiff, true_and, and_true, decide_eq_true_eq, reduceIte, Bool.false_eq_true, Bool.not_true, Bool.not_false, decide_true, decide_false]
    rw [if_neg (by decide)]
    walk_at "w0"
    rw [s_seq]
    walk_at "w0"
    rw [if_neg (by decide)]
    walk_at "w0"
    rw [s_seq]
    walk_at "w0"
    rw [s_seq]
    walk_at "w0"
    refine (israce_ok h.1).mono ?_
    rintro _ m1 ⟨rfl, rfl⟩
    walk_at "w0"
    refine (isringT hB h.2.1).mono ?_
    rintro _ m1 ⟨rfl, A1⟩
    walk_at "w0"
    rw [s_seq]
    walk_at "w0"
    refine (isfrom_ok (nr_int _)).mono ?_
    rintro _ m1 ⟨rfl, rfl⟩
    try simp -dsimp only [frm, at0, at1, at2, at3, at4, at5, at6, wp_fn, s_nil, s_brk, s_cnt, s_expr, s_ret, s_retN, s_if, s_asn, s_par, s_asg, g_nm, g_nil, g_cons, g_tupT, g_subW, w_v0, w_vS, w_c, w_op, w_un, w_anil, w_acons, w_tup, w_lst, w_call, w_callU, w_isi, w_meth, w_tru, w_bool, w_notS, w_andS, w_orS, w_ifx, w_andV, w_orV, w_notV, w_chain, wp_ok, wp_bad, wp_some, wp_none, wp_liftif, wp_if, asB_b, wp_noex, add_ii, sub_ii, mul_ii, fdiv_ii, mod_ii, pow_ii, neg_i, cmp_ii, lt_ii, le_ii, gt_ii, ge_ii, le_cc, muls_ii, muls_si, ins_cs, iadd_ii, isub_ii, w_onone, w_osome, w_sl, sl_s, sl_t, s_aug, eq_ss, len_s, ix_s, add_ss, str_s, tuple_t, list_t, is_n, not_n, non_n, non_i, non_b, non_s, non_t, non_r, abs_i, max_ii, min_ii, int_i, int_b, gcd_ii, len_t, ix_t, eq_v, ne_v, eq_ii, eq_bb, eq_nn, eq_in, eq_ni, iv_n_list, iv_n_tuple, iv_n_bool, iv_n_str, iv_n_int, okt_n, iv_b_list, iv_b_tuple, iv_b_bool, iv_b_str, iv_b_int, okt_b, iv_i_list, iv_i_tuple, iv_i_bool, iv_i_str, iv_i_int, okt_i, iv_s_list, iv_s_tuple, iv_s_bool, iv_s_str, iv_s_int, okt_s, iv_t_list, iv_t_tuple, iv_t_bool, iv_t_str, iv_t_int, okt_t, iv_r_list, iv_r_tuple, iv_r_bool, iv_r_str, iv_r_int, tru_b, tru_i, tru_n, tru_t, Option.map_some, Option.map_none, List.map_cons, List.map_nil, List.length_cons, List.length_nil, List.set_cons_zero, List.set_cons_succ, List.cons_append, List.nil_append, List.replicate, Nat.reduceAdd, Nat.reduceSub, Nat.reduceLeDiff, true_and, and_true, decide_eq_true_eq, reduceIte, Bool.false_eq_true, Bool.not_true, Bool.not_false, decide_true, decide_false]
    exact ⟨by simp; omega, A1⟩
  | slp r g v =>
    have hu := h.2.2
    try simp -dsimp only [En.kind, kSlp, En.size, En.rest, at0, at1, at2, at3, at4, at5, at6, wp_fn, s_nil, s_brk, s_cnt, s_expr, s_ret, s_retN, s_if, s_asn, s_par, s_asg, g_nm, g_nil, g_cons, g_tupT, g_subW, w_v0, w_vS, w_c, w_op, w_un, w_anil, w_acons, w_tup, w_lst, w_call, w_callU, w_isi, w_meth, w_tru, w_bool, w_notS, w_andS, w_orS, w_ifx, w_andV, w_orV, w_notV, w_chain, wp_ok, wp_bad, wp_some, wp_none, wp_liftif, wp_if, asB_b, wp_noex, add_ii, sub_ii, mul_ii, fdiv_ii, mod_ii, pow_ii, neg_i, cmp_ii, lt_ii, le_ii, gt_ii, ge_ii, le_cc, muls_ii, muls_si, ins_cs, iadd_ii, isub_ii, w_onone, w_osome, w_sl, sl_s, sl_t, s_aug, eq_ss, len_s, ix_s, add_ss, str_s, tuple_t, list_t, is_n, not_n, non_n, non_i, non_b, non_s, non_t, non_r, abs_i, max_ii, min_ii, int_i, int_b, gcd_ii, len_t, ix_t, eq_v, ne_v, eq_ii, eq_bb, eq_nn, eq_in, eq_ni, iv_n_list, iv_n_tuple, iv_n_bool, iv_n_str, iv_n_int, okt_n, iv_b_list, iv_b_tuple, iv_b_bool, iv_b_str, iv_b_int, okt_b, iv_i_list, iv_i_tuple, iv_i_bool, iv_i_str, iv_i_int, okt_i, iv_s_list, iv_s_tuple, iv_s_bool, iv_s_str, iv_s_int, okt_s, iv_t_list, iv_t_tuple, iv_t_bool, iv_t_str, iv_t_int, okt_t, iv_r_list, iv_r_tuple, iv_r_bool, iv_r_str, iv_r_int, tru_b, tru_i, tru_n, tru_t, Option.map_some, Option.map_none, List.map_cons, List.map_nil, List.length_cons, List.length_nil, List.set_cons_zero, List.set_cons_succ, List.cons_append, List.nil_append, List.replicate, Nat.reduceAdd, Nat.reduceSub, Nat.reduceLeDiff, true_and, and_true, decide_eq_true_eq, reduceIte, Bool.false_eq_true, Bool.not_true, Bool.not_false, decide_true, decide_false]
    rw [if_neg (by decide)]
    walk_at "w0"
    rw [s_seq]
    walk_at "w0"
    rw [if_neg (by decide)]
    walk_at "w0"
    rw [s_seq]
    walk_at "w0"
    rw [s_seq]
    walk_at "w0"
    refine (israce_ok h.1).mono ?_
    rintro _ m1 ⟨rfl, rfl⟩
    walk_at "w0"
    refine (isringT hB h.2.1).mono ?_
    rintro _ m1 ⟨rfl, A1⟩
    walk_at "w0"
    rw [s_seq]
    rcases hu with rfl | ⟨k, rfl, k0, k1⟩
    · walk_at "w0"
      exact A1
    · walk_at "w0"
      refine (isfrom_ok (nr_int _)).mono ?_
      rintro _ m1 ⟨rfl, rfl⟩
      try simp -dsimp only [frm, at0, at1, at2, at3, at4, at5, at6, wp_fn, s_nil, s_brk, s_cnt, s_expr, s_ret, s_retN, s_if, s_asn, s_par, s_asg, g_nm, g_nil, g_cons, g_tupT, g_subW, w_v0, w_vS, w_c, w_op, w_un, w_anil, w_acons, w_tup, w_lst, w_call, w_callU, w_isi, w_meth, w_tru, w_bool, w_notS, w_andS, w_orS, w_ifx, w_andV, w_orV, w_notV, w_chain, wp_ok, wp_bad, wp_some, wp_none, wp_liftif, wp_if, asB_b, wp_noex, add_ii, sub_ii, mul_ii, fdiv_ii, mod_ii, pow_ii, neg_i, cmp_ii, lt_ii, le_ii, gt_ii, ge_ii, le_cc, muls_ii, muls_si, ins_cs, iadd_ii, isub_ii, w_onone, w_osome, w_sl, sl_s, sl_t, s_aug, eq_ss, len_s, ix_s, add_ss, str_s, tuple_t, list_t, is_n, not_n, non_n, non_i, non_b, non_s, non_t, non_r, abs_i, max_ii, min_ii, int_i, int_b, gcd_ii, len_t, ix_t, eq_v, ne_v, eq_ii, eq_bb, eq_nn, eq_in, eq_ni, iv_n_list, iv_n_tuple, iv_n_bool, iv_n_str, iv_n_int, okt_n, iv_b_list, iv_b_tuple, iv_b_bool, iv_b_str, iv_b_int, okt_b, iv_i_list, iv_i_tuple, iv_i_bool, iv_i_str, iv_i_int, okt_i, iv_s_list, iv_s_tuple, iv_s_bool, iv_s_str, iv_s_int, okt_s, iv_t_list, iv_t_tuple, iv_t_bool, iv_t_str, iv_t_int, okt_t, iv_r_list, iv_r_tuple, iv_r_bool, iv_r_str, iv_r_int, tru_b, tru_i, tru_n, tru_t, Option.map_some, Option.map_none, List.map_cons, List.map_nil, List.length_cons, List.length_nil, List.set_cons_zero, List.set_cons_succ, List.cons_append, List.nil_append, List.replicate, Nat.reduceAdd, Nat.reduceSub, Nat.reduceLeDiff, true_and, and_true, decide_eq_true_eq, reduceIte, Bool.false_eq_true, Bool.not_true, Bool.not_false, decide_true, decide_false]
      exact ⟨by simp; omega, A1⟩
end
def FrK (k : Nat) (m m' : MH) : Prop := m.length ≤ m'.length ∧ ∀ (n : Nat) (o : MO), n ≠ k → m[n]? = some o → m'[n]? = some o
theorem Gr.frk {k : Nat} {m m' : MH} (h : Gr m m') : FrK k m m' := ⟨h.len, fun n o _ e => h.get n o e⟩
theorem FrK.trans {k : Nat} {m m1 m2 : MH} (h : FrK k m m1) (h2 : FrK k m1 m2) : FrK k m m2 := ⟨Nat.le_trans h.1 h2.1, fun n o hn e => h2.2 n o hn (h.2 n o hn e)⟩
theorem Ap.gr {m m' : MH} (h : Ap m m') : Gr m m' := ⟨by obtain ⟨a, rfl⟩ := h; simp, fun n o e => h.get e⟩
theorem FrK.set {k : Nat} {m : MH} {o : MO} : FrK k m (m.set k o) := ⟨by simp, fun n u hn e => by rw [List.getElem?_set_ne (Ne.symm hn)]; exact e⟩
structure Bk (m : MH) (b h : Nat) (i : Int) (c : PV) (ts : List Tl) : Prop where
  ob : m[b]? = some (.ins [.int i, c, .ref h])
  hd : m[h]? = some (.lst (ts.map Tl.pv))
theorem Bk.gr {m m' : MH} {b h : Nat} {i : Int} {c : PV} {ts : List Tl} (k : Bk m b h i c ts) (g : Gr m m') : Bk m' b h i c ts := ⟨g.get _ _ k.ob, g.get _ _ k.hd⟩
theorem Bk.fr {m m' : MH} {b h n : Nat} {i : Int} {c : PV} {ts : List Tl} (k : Bk m b h i c ts) (g : FrK n m m') (h1 : b ≠ n) (h2 : h ≠ n) : Bk m' b h i c ts := ⟨g.2 _ _ h1 k.ob, g.2 _ _ h2 k.hd⟩
theorem Bk.ne {m : MH} {b h : Nat} {i : Int} {c : PV} {ts : List Tl} (k : Bk m b h i c ts) : b ≠ h := by
  rintro rfl
  have := k.ob
  rw [k.hd] at this
  cases this
def Tl.key (t : Tl) : List Int := [t.st, t.src]
noncomputable def srt (ts : List Tl) : List Tl := ts.mergeSort fun x y => kle (Tl.key x) (Tl.key y)
theorem srt_perm {ts : List Tl} : (srt ts).Perm ts := List.mergeSort_perm _ _
theorem srt_mem {ts : List Tl} {t : Tl} : t ∈ srt ts ↔ t ∈ ts := srt_perm.mem_iff
theorem srt_len {ts : List Tl} : (srt ts).length = ts.length := srt_perm.length_eq
def KeyF (g : FS) : Prop := ∀ (t : Tl) (m : MH), g [t.pv] m = .ok (.tup [.int t.st, .int t.src]) m
theorem KeyF.of {g : FS} (hg : KeyF g) (m : MH) (t : Tl) : SM.keyOf g m t.pv = .tup [.int t.st, .int t.src] := by unfold SM.keyOf; rw [hg]
theorem KeyF.sok {g : FS} (hg : KeyF g) {m : MH} {ts : List Tl} : SortKOk g m (ts.map Tl.pv) := by
  refine ⟨fun x hx => ?_, ?_⟩
  · obtain ⟨t, _, rfl⟩ := List.mem_map.mp hx
    exact ⟨_, hg t m⟩
  · refine sortOk_by fun x hx => ?_
    rw [List.map_map] at hx
    obtain ⟨t, _, rfl⟩ := List.mem_map.mp hx
    exact ⟨t.st, t.src, hg.of m t⟩
theorem KeyF.srt {g : FS} (hg : KeyF g) {m : MH} {ts : List Tl} : sortK g m (ts.map Tl.pv) = (srt ts).map Tl.pv :=
  sortedK_by (key := Tl.key) fun t => by rw [hg.of m t]; rfl
def lamF : FS := gLam 1 1 (sTup (aCons (sOp ixv (sVar 0) (sC (.int 0))) (aCons (sOp ixv (sVar 0) (sC (.int 1))) aNil)))
theorem lamKF : KeyF lamF := fun t m => by
  have h : WP (lamF [t.pv] m) (fun x m' => x = .tup [.int t.st, .int t.src] ∧ m' = m) NoE := by
    show WP (sTup (aCons (sOp ixv (sVar 0) (sC (.int 0))) (aCons (sOp ixv (sVar 0) (sC (.int 1))) aNil)) [some t.pv] m) _ _
    unfold Tl.pv
    walk_at "w0"
  obtain ⟨x, m', e, rfl, rfl⟩ := h.run
  exact e
def lamQ : Str := "Book.tellings.<locals>.<lambda>"
section
variable {m : MH} {b h : Nat} {i : Int} {c : PV} {ts : List Tl}
theorem bclub_ok (k : Bk m b h i c ts) : WP (f_Book_club [.ref b] m) (fun x m' => x = c ∧ m' = m) NoE := by
  unfold f_Book_club b_Book_club
  try simp -dsimp only [w_fld, fld_r k.ob (i := 1) rfl, at0, at1, at2, at3, at4, at5, at6, wp_fn, s_nil, s_brk, s_cnt, s_expr, s_ret, s_retN, s_if, s_asn, s_par, s_asg, g_nm, g_nil, g_cons, g_tupT, g_subW, w_v0, w_vS, w_c, w_op, w_un, w_anil, w_acons, w_tup, w_lst, w_call, w_callU, w_isi, w_meth, w_tru, w_bool, w_notS, w_andS, w_orS, w_ifx, w_andV, w_orV, w_notV, w_chain, wp_ok, wp_bad, wp_some, wp_none, wp_liftif, wp_if, asB_b, wp_noex, add_ii, sub_ii, mul_ii, fdiv_ii, mod_ii, pow_ii, neg_i, cmp_ii, lt_ii, le_ii, gt_ii, ge_ii, le_cc, muls_ii, muls_si, ins_cs, iadd_ii, isub_ii, w_onone, w_osome, w_sl, sl_s, sl_t, s_aug, eq_ss, len_s, ix_s, add_ss, str_s, tuple_t, list_t, is_n, not_n, non_n, non_i, non_b, non_s, non_t, non_r, abs_i, max_ii, min_ii, int_i, int_b, gcd_ii, len_t, ix_t, eq_v, ne_v, eq_ii, eq_bb, eq_nn, eq_in, eq_ni, iv_n_list, iv_n_tuple, iv_n_bool, iv_n_str, iv_n_int, okt_n, iv_b_list, iv_b_tuple, iv_b_bool, iv_b_str, iv_b_int, okt_b, iv_i_list, iv_i_tuple, iv_i_bool, iv_i_str, iv_i_int, okt_i, iv_s_list, iv_s_tuple, iv_s_bool, iv_s_str, iv_s_int, okt_s, iv_t_list, iv_t_tuple, iv_t_bool, iv_t_str, iv_t_int, okt_t, iv_r_list, iv_r_tuple, iv_r_bool, iv_r_str, iv_r_int, tru_b, tru_i, tru_n, tru_t, Option.map_some, Option.map_none, List.map_cons, List.map_nil, List.length_cons, List.length_nil, List.set_cons_zero, List.set_cons_succ, List.cons_append, List.nil_append, List.replicate, Nat.reduceAdd, Nat.reduceSub, Nat.reduceLeDiff, true_and, and_true, decide_eq_true_eq, reduceIte, Bool.false_eq_true, Bool.not_true, Bool.not_false, decide_true, decide_false]
theorem held_ok (k : Bk m b h i c ts) : WP (f_Book_held [.ref b] m) (fun x m' => x = .ref m.length ∧ m' = m ++ [.lst (ts.map Tl.pv)]) NoE := by
  unfold f_Book_held b_Book_held
  try simp -dsimp only [w_fld, fld_r k.ob (i := 2) rfl, list_r (seq_of_lst k.hd), at0, at1, at2, at3, at4, at5, at6, wp_fn, s_nil, s_brk, s_cnt, s_expr, s_ret, s_retN, s_if, s_asn, s_par, s_asg, g_nm, g_nil, g_cons, g_tupT, g_subW, w_v0, w_vS, w_c, w_op, w_un, w_anil, w_acons, w_tup, w_lst, w_call, w_callU, w_isi, w_meth, w_tru, w_bool, w_notS, w_andS, w_orS, w_ifx, w_andV, w_orV, w_notV, w_chain, wp_ok, wp_bad, wp_some, wp_none, wp_liftif, wp_if, asB_b, wp_noex, add_ii, sub_ii, mul_ii, fdiv_ii, mod_ii, pow_ii, neg_i, cmp_ii, lt_ii, le_ii, gt_ii, ge_ii, le_cc, muls_ii, muls_si, ins_cs, iadd_ii, isub_ii, w_onone, w_osome, w_sl, sl_s, sl_t, s_aug, eq_ss, len_s, ix_s, add_ss, str_s, tuple_t, list_t, is_n, not_n, non_n, non_i, non_b, non_s, non_t, non_r, abs_i, max_ii, min_ii, int_i, int_b, gcd_ii, len_t, ix_t, eq_v, ne_v, eq_ii, eq_bb, eq_nn, eq_in, eq_ni, iv_n_list, iv_n_tuple, iv_n_bool, iv_n_str, iv_n_int, okt_n, iv_b_list, iv_b_tuple, iv_b_bool, iv_b_str, iv_b_int, okt_b, iv_i_list, iv_i_tuple, iv_i_bool, iv_i_str, iv_i_int, okt_i, iv_s_list, iv_s_tuple, iv_s_bool, iv_s_str, iv_s_int, okt_s, iv_t_list, iv_t_tuple, iv_t_bool, iv_t_str, iv_t_int, okt_t, iv_r_list, iv_r_tuple, iv_r_bool, iv_r_str, iv_r_int, tru_b, tru_i, tru_n, tru_t, Option.map_some, Option.map_none, List.map_cons, List.map_nil, List.length_cons, List.length_nil, List.set_cons_zero, List.set_cons_succ, List.cons_append, List.nil_append, List.replicate, Nat.reduceAdd, Nat.reduceSub, Nat.reduceLeDiff, true_and, and_true, decide_eq_true_eq, reduceIte, Bool.false_eq_true, Bool.not_true, Bool.not_false, decide_true, decide_false]
theorem tellings_ok (k : Bk m b h i c ts) (h1 : m[1]? = some (.tbl tabP lamQ)) : WP (f_Book_tellings [.ref b] m) (fun x m' => x = .ref m.length ∧ m' = m ++ [.lst ((srt ts).map Tl.pv)]) NoE := by
  unfold f_Book_tellings b_Book_tellings
  walk_at "w1"
  refine w_sortL ?_
  try simp -dsimp only [w_fld, fld_r k.ob (i := 2) rfl, at0, at1, at2, at3, at4, at5, at6, wp_fn, s_nil, s_brk, s_cnt, s_expr, s_ret, s_retN, s_if, s_asn, s_par, s_asg, g_nm, g_nil, g_cons, g_tupT, g_subW, w_v0, w_vS, w_c, w_op, w_un, w_anil, w_acons, w_tup, w_lst, w_call, w_callU, w_isi, w_meth, w_tru, w_bool, w_notS, w_andS, w_orS, w_ifx, w_andV, w_orV, w_notV, w_chain, wp_ok, wp_bad, wp_some, wp_none, wp_liftif, wp_if, asB_b, wp_noex, add_ii, sub_ii, mul_ii, fdiv_ii, mod_ii, pow_ii, neg_i, cmp_ii, lt_ii, le_ii, gt_ii, ge_ii, le_cc, muls_ii, muls_si, ins_cs, iadd_ii, isub_ii, w_onone, w_osome, w_sl, sl_s, sl_t, s_aug, eq_ss, len_s, ix_s, add_ss, str_s, tuple_t, list_t, is_n, not_n, non_n, non_i, non_b, non_s, non_t, non_r, abs_i, max_ii, min_ii, int_i, int_b, gcd_ii, len_t, ix_t, eq_v, ne_v, eq_ii, eq_bb, eq_nn, eq_in, eq_ni, iv_n_list, iv_n_tuple, iv_n_bool, iv_n_str, iv_n_int, okt_n, iv_b_list, iv_b_tuple, iv_b_bool, iv_b_str, iv_b_int, okt_b, iv_i_list, iv_i_tuple, iv_i_bool, iv_i_str, iv_i_int, okt_i, iv_s_list, iv_s_tuple, iv_s_bool, iv_s_str, iv_s_int, okt_s, iv_t_list, iv_t_tuple, iv_t_bool, iv_t_str, iv_t_int, okt_t, iv_r_list, iv_r_tuple, iv_r_bool, iv_r_str, iv_r_int, tru_b, tru_i, tru_n, tru_t, Option.map_some, Option.map_none, List.map_cons, List.map_nil, List.length_cons, List.length_nil, List.set_cons_zero, List.set_cons_succ, List.cons_append, List.nil_append, List.replicate, Nat.reduceAdd, Nat.reduceSub, Nat.reduceLeDiff, true_and, and_true, decide_eq_true_eq, reduceIte, Bool.false_eq_true, Bool.not_true, Bool.not_false, decide_true, decide_false]
  refine ⟨h, _, rfl, seq_of_lst k.hd, lamKF.sok, h1, ?_⟩
  have e := lamKF.srt (m := m) (ts := ts)
  unfold lamF at e
  rw [e]
end
theorem getD_set_eq {m : MH} {n : Nat} {o u : MO} (h : m[n]? = some u) : (m.set n o)[n]? = some o := List.getElem?_set_self (List.getElem?_eq_some_iff.mp h).1
theorem init_ok {m : MH} {b : Nat} {i : Int} {c : PV} (hb : m[b]? = some (.ins [])) (h1 : 1 ≤ i) (h2 : i ≤ 9) :
    WP (f_Book_init [.ref b, .int i, c] m) (fun x m' => x = .non ∧ Bk m' b m.length i c [] ∧ m'.length = m.length + 1 ∧ FrK b m m') NoE := by
  have hl := (List.getElem?_eq_some_iff.mp hb).1
  unfold f_Book_init b_Book_init
  walk_at "w1"
  rw [s_seq]
  walk_at "w1"
  refine (isfrom_ok (nr_int _)).mono ?_
  rintro _ m ⟨rfl, rfl⟩
  have e : frm (.int i) 1 9 = true := by unfold frm; simp; omega
  rw [e]
  walk_at "w1"
  rw [s_seq]
  refine s_fldS ?_
  walk_at "w1"
  refine ⟨b, [], rfl, hb, rfl, ?_⟩
  rw [s_seq]
  refine s_fldS ?_
  walk_at "w1"
  refine ⟨b, _, rfl, getD_set_eq hb, rfl, ?_⟩
  refine s_fldS ?_
  walk_at "w1"
  have e1 : ((m.set b (.ins [.int i])).set b (.ins [.int i, c])) = m.set b (.ins [.int i, c]) := List.set_set ..
  refine ⟨b, [.int i, c], rfl, ?_, rfl, ?_⟩
  · rw [List.getElem?_append_left (by simpa using hl)]
    exact List.getElem?_set_self (by simpa using hl)
  · simp only [List.nil_append, List.cons_append, List.length_set, List.set_set]
    refine ⟨⟨?_, ?_⟩, by simp, by simp, fun n o hn e => ?_⟩
    · rw [List.getElem?_set_self (by simp; omega)]
    · rw [List.getElem?_set_ne (by omega), List.getElem?_append_right (by simp)]
      simp
    · rw [List.getElem?_set_ne (Ne.symm hn), List.getElem?_append_left (by simpa using (List.getElem?_eq_some_iff.mp e).1), List.getElem?_set_ne (Ne.symm hn)]
      exact e
theorem map_st {ts : List Tl} : ts.map (fun t => PV.int t.st) = (ts.map Tl.st).map .int := by rw [List.map_map]; rfl
theorem tell_ok {m : MH} {b h : Nat} {i : Int} {ts : List Tl} {e : En} {L : List Loft} {B : List Bird} {R : List Race} (hC : ClubG L B R) (he : EnOk L B R e) (k : Bk m b h i (clubPV L B R) ts) (hl : ts.length < 80) :
    WP (f_Book_tell [.ref b, e.pv] m) (fun x m' => x = (Tl.mk (1 + maxDf (ts.map Tl.st) 0) i e).pv ∧ Bk m' b h i (clubPV L B R) (ts ++ [Tl.mk (1 + maxDf (ts.map Tl.st) 0) i e]) ∧ FrK h m m') NoE := by
  have hbh := k.ne
  unfold f_Book_tell b_Book_tell
  walk_at "w1"
  rw [s_seq]
  try simp -dsimp only [w_fld, fld_r k.ob (i := 1) rfl, at0, at1, at2, at3, at4, at5, at6, wp_fn, s_nil, s_brk, s_cnt, s_expr, s_ret, s_retN, s_if, s_asn, s_par, s_asg, g_nm, g_nil, g_cons, g_tupT, g_subW, w_v0, w_vS, w_c, w_op, w_un, w_anil, w_acons, w_tup, w_lst, w_call, w_callU, w_isi, w_meth, w_tru, w_bool, w_notS, w_andS, w_orS, w_ifx, w_andV, w_orV, w_notV, w_chain, wp_ok, wp_bad, wp_some, wp_none, wp_liftif, wp_if, asB_b, wp_noex, add_ii, sub_ii, mul_ii, fdiv_ii, mod_ii, pow_ii, neg_i, cmp_ii, lt_ii, le_ii, gt_ii, ge_ii, le_cc, muls_ii, muls_si, ins_cs, iadd_ii, isub_ii, w_onone, w_osome, w_sl, sl_s, sl_t, s_aug, eq_ss, len_s, ix_s, add_ss, str_s, tuple_t, list_t, is_n, not_n, non_n, non_i, non_b, non_s, non_t, non_r, abs_i, max_ii, min_ii, int_i, int_b, gcd_ii, len_t, ix_t, eq_v, ne_v, eq_ii, eq_bb, eq_nn, eq_in, eq_ni, iv_n_list, iv_n_tuple, iv_n_bool, iv_n_str, iv_n_int, okt_n, iv_b_list, iv_b_tuple, iv_b_bool, iv_b_str, iv_b_int, okt_b, iv_i_list, iv_i_tuple, iv_i_bool, iv_i_str, iv_i_int, okt_i, iv_s_list, iv_s_tuple, iv_s_bool, iv_s_str, iv_s_int, okt_s, iv_t_list, iv_t_tuple, iv_t_bool, iv_t_str, iv_t_int, okt_t, iv_r_list, iv_r_tuple, iv_r_bool, iv_r_str, iv_r_int, tru_b, tru_i, tru_n, tru_t, Option.map_some, Option.map_none, List.map_cons, List.map_nil, List.length_cons, List.length_nil, List.set_cons_zero, List.set_cons_succ, List.cons_append, List.nil_append, List.replicate, Nat.reduceAdd, Nat.reduceSub, Nat.reduceLeDiff, true_and, and_true, decide_eq_true_eq, reduceIte, Bool.false_eq_true, Bool.not_true, Bool.not_false, decide_true, decide_false]
  refine (isright_ok hC he).mono ?_
  rintro _ m1 ⟨rfl, A1⟩
  have k1 := k.gr A1.gr
  have F1 := A1.gr.frk (k := h)
  clear A1
  walk_at "w0"
  rw [s_seq]
  try simp -dsimp only [w_fld, fld_r k1.ob (i := 2) rfl, at0, at1, at2, at3, at4, at5, at6, wp_fn, s_nil, s_brk, s_cnt, s_expr, s_ret, s_retN, s_if, s_asn, s_par, s_asg, g_nm, g_nil, g_cons, g_tupT, g_subW, w_v0, w_vS, w_c, w_op, w_un, w_anil, w_acons, w_tup, w_lst, w_call, w_callU, w_isi, w_meth, w_tru, w_bool, w_notS, w_andS, w_orS, w_ifx, w_andV, w_orV, w_notV, w_chain, wp_ok, wp_bad, wp_some, wp_none, wp_liftif, wp_if, asB_b, wp_noex, add_ii, sub_ii, mul_ii, fdiv_ii, mod_ii, pow_ii, neg_i, cmp_ii, lt_ii, le_ii, gt_ii, ge_ii, le_cc, muls_ii, muls_si, ins_cs, iadd_ii, isub_ii, w_onone, w_osome, w_sl, sl_s, sl_t, s_aug, eq_ss, len_s, ix_s, add_ss, str_s, tuple_t, list_t, is_n, not_n, non_n, non_i, non_b, non_s, non_t, non_r, abs_i, max_ii, min_ii, int_i, int_b, gcd_ii, len_t, ix_t, eq_v, ne_v, eq_ii, eq_bb, eq_nn, eq_in, eq_ni, iv_n_list, iv_n_tuple, iv_n_bool, iv_n_str, iv_n_int, okt_n, iv_b_list, iv_b_tuple, iv_b_bool, iv_b_str, iv_b_int, okt_b, iv_i_list, iv_i_tuple, iv_i_bool, iv_i_str, iv_i_int, okt_i, iv_s_list, iv_s_tuple, iv_s_bool, iv_s_str, iv_s_int, okt_s, iv_t_list, iv_t_tuple, iv_t_bool, iv_t_str, iv_t_int, okt_t, iv_r_list, iv_r_tuple, iv_r_bool, iv_r_str, iv_r_int, tru_b, tru_i, tru_n, tru_t, Option.map_some, Option.map_none, List.map_cons, List.map_nil, List.length_cons, List.length_nil, List.set_cons_zero, List.set_cons_succ, List.cons_append, List.nil_append, List.replicate, Nat.reduceAdd, Nat.reduceSub, Nat.reduceLeDiff, true_and, and_true, decide_eq_true_eq, reduceIte, Bool.false_eq_true, Bool.not_true, Bool.not_false, decide_true, decide_false]
  rw [len_r (seq_of_lst k1.hd), List.length_map]
  walk_at "w0"
  rw [if_neg (by omega)]
  walk_at "w0"
  rw [s_seq]
  walk_at "w0"
  refine w_maxD ?_
  walk_at "w0"
  refine lc_mapL (f := Tl.pv) (g := fun t => .int t.st) (by simp) ?_
  try simp -dsimp only [w_fld, fld_r k1.ob (i := 2) rfl, at0, at1, at2, at3, at4, at5, at6, wp_fn, s_nil, s_brk, s_cnt, s_expr, s_ret, s_retN, s_if, s_asn, s_par, s_asg, g_nm, g_nil, g_cons, g_tupT, g_subW, w_v0, w_vS, w_c, w_op, w_un, w_anil, w_acons, w_tup, w_lst, w_call, w_callU, w_isi, w_meth, w_tru, w_bool, w_notS, w_andS, w_orS, w_ifx, w_andV, w_orV, w_notV, w_chain, wp_ok, wp_bad, wp_some, wp_none, wp_liftif, wp_if, asB_b, wp_noex, add_ii, sub_ii, mul_ii, fdiv_ii, mod_ii, pow_ii, neg_i, cmp_ii, lt_ii, le_ii, gt_ii, ge_ii, le_cc, muls_ii, muls_si, ins_cs, iadd_ii, isub_ii, w_onone, w_osome, w_sl, sl_s, sl_t, s_aug, eq_ss, len_s, ix_s, add_ss, str_s, tuple_t, list_t, is_n, not_n, non_n, non_i, non_b, non_s, non_t, non_r, abs_i, max_ii, min_ii, int_i, int_b, gcd_ii, len_t, ix_t, eq_v, ne_v, eq_ii, eq_bb, eq_nn, eq_in, eq_ni, iv_n_list, iv_n_tuple, iv_n_bool, iv_n_str, iv_n_int, okt_n, iv_b_list, iv_b_tuple, iv_b_bool, iv_b_str, iv_b_int, okt_b, iv_i_list, iv_i_tuple, iv_i_bool, iv_i_str, iv_i_int, okt_i, iv_s_list, iv_s_tuple, iv_s_bool, iv_s_str, iv_s_int, okt_s, iv_t_list, iv_t_tuple, iv_t_bool, iv_t_str, iv_t_int, okt_t, iv_r_list, iv_r_tuple, iv_r_bool, iv_r_str, iv_r_int, tru_b, tru_i, tru_n, tru_t, Option.map_some, Option.map_none, List.map_cons, List.map_nil, List.length_cons, List.length_nil, List.set_cons_zero, List.set_cons_succ, List.cons_append, List.nil_append, List.replicate, Nat.reduceAdd, Nat.reduceSub, Nat.reduceLeDiff, true_and, and_true, decide_eq_true_eq, reduceIte, Bool.false_eq_true, Bool.not_true, Bool.not_false, decide_true, decide_false]
  refine ⟨h, ts, rfl, k1.hd, by omega, fun t ht m2 => ?_, fun m2 G2 P2 => ?_⟩
  · unfold Tl.pv
    walk_at "w0"
  rw [map_st] at P2
  have k2 := k1.gr G2
  have F2 := F1.trans (G2.frk (k := h))
  walk_at "w0"
  refine ⟨m1.length, _, 0, rfl, rfl, seq_of_lst P2, ?_⟩
  walk_at "w0"
  rw [s_seq]
  try simp -dsimp only [w_fld, fld_r k2.ob (i := 0) rfl, at0, at1, at2, at3, at4, at5, at6, wp_fn, s_nil, s_brk, s_cnt, s_expr, s_ret, s_retN, s_if, s_asn, s_par, s_asg, g_nm, g_nil, g_cons, g_tupT, g_subW, w_v0, w_vS, w_c, w_op, w_un, w_anil, w_acons, w_tup, w_lst, w_call, w_callU, w_isi, w_meth, w_tru, w_bool, w_notS, w_andS, w_orS, w_ifx, w_andV, w_orV, w_notV, w_chain, wp_ok, wp_bad, wp_some, wp_none, wp_liftif, wp_if, asB_b, wp_noex, add_ii, sub_ii, mul_ii, fdiv_ii, mod_ii, pow_ii, neg_i, cmp_ii, lt_ii, le_ii, gt_ii, ge_ii, le_cc, muls_ii, muls_si, ins_cs, iadd_ii, isub_ii, w_onone, w_osome, w_sl, sl_s, sl_t, s_aug, eq_ss, len_s, ix_s, add_ss, str_s, tuple_t, list_t, is_n, not_n, non_n, non_i, non_b, non_s, non_t, non_r, abs_i, max_ii, min_ii, int_i, int_b, gcd_ii, len_t, ix_t, eq_v, ne_v, eq_ii, eq_bb, eq_nn, eq_in, eq_ni, iv_n_list, iv_n_tuple, iv_n_bool, iv_n_str, iv_n_int, okt_n, iv_b_list, iv_b_tuple, iv_b_bool, iv_b_str, iv_b_int, okt_b, iv_i_list, iv_i_tuple, iv_i_bool, iv_i_str, iv_i_int, okt_i, iv_s_list, iv_s_tuple, iv_s_bool, iv_s_str, iv_s_int, okt_s, iv_t_list, iv_t_tuple, iv_t_bool, iv_t_str, iv_t_int, okt_t, iv_r_list, iv_r_tuple, iv_r_bool, iv_r_str, iv_r_int, tru_b, tru_i, tru_n, tru_t, Option.map_some, Option.map_none, List.map_cons, List.map_nil, List.length_cons, List.length_nil, List.set_cons_zero, List.set_cons_succ, List.cons_append, List.nil_append, List.replicate, Nat.reduceAdd, Nat.reduceSub, Nat.reduceLeDiff, true_and, and_true, decide_eq_true_eq, reduceIte, Bool.false_eq_true, Bool.not_true, Bool.not_false, decide_true, decide_false]
  rw [s_seq]
  try simp -dsimp only [w_fld, fld_r k2.ob (i := 2) rfl, at0, at1, at2, at3, at4, at5, at6, wp_fn, s_nil, s_brk, s_cnt, s_expr, s_ret, s_retN, s_if, s_asn, s_par, s_asg, g_nm, g_nil, g_cons, g_tupT, g_subW, w_v0, w_vS, w_c, w_op, w_un, w_anil, w_acons, w_tup, w_lst, w_call, w_callU, w_isi, w_meth, w_tru, w_bool, w_notS, w_andS, w_orS, w_ifx, w_andV, w_orV, w_notV, w_chain, wp_ok, wp_bad, wp_some, wp_none, wp_liftif, wp_if, asB_b, wp_noex, add_ii, sub_ii, mul_ii, fdiv_ii, mod_ii, pow_ii, neg_i, cmp_ii, lt_ii, le_ii, gt_ii, ge_ii, le_cc, muls_ii, muls_si, ins_cs, iadd_ii, isub_ii, w_onone, w_osome, w_sl, sl_s, sl_t, s_aug, eq_ss, len_s, ix_s, add_ss, str_s, tuple_t, list_t, is_n, not_n, non_n, non_i, non_b, non_s, non_t, non_r, abs_i, max_ii, min_ii, int_i, int_b, gcd_ii, len_t, ix_t, eq_v, ne_v, eq_ii, eq_bb, eq_nn, eq_in, eq_ni, iv_n_list, iv_n_tuple, iv_n_bool, iv_n_str, iv_n_int, okt_n, iv_b_list, iv_b_tuple, iv_b_bool, iv_b_str, iv_b_int, okt_b, iv_i_list, iv_i_tuple, iv_i_bool, iv_i_str, iv_i_int, okt_i, iv_s_list, iv_s_tuple, iv_s_bool, iv_s_str, iv_s_int, okt_s, iv_t_list, iv_t_tuple, iv_t_bool, iv_t_str, iv_t_int, okt_t, iv_r_list, iv_r_tuple, iv_r_bool, iv_r_str, iv_r_int, tru_b, tru_i, tru_n, tru_t, Option.map_some, Option.map_none, List.map_cons, List.map_nil, List.length_cons, List.length_nil, List.set_cons_zero, List.set_cons_succ, List.cons_append, List.nil_append, List.replicate, Nat.reduceAdd, Nat.reduceSub, Nat.reduceLeDiff, true_and, and_true, decide_eq_true_eq, reduceIte, Bool.false_eq_true, Bool.not_true, Bool.not_false, decide_true, decide_false]
  refine ⟨isLst_r k2.hd, ?_⟩
  rw [append_r k2.hd (by rw [List.length_map]; omega)]
  walk_at "w0"
  refine ⟨rfl, ⟨?_, ?_⟩, F2.trans FrK.set⟩
  · rw [List.getElem?_set_ne (by omega)]; exact k2.ob
  · rw [getD_set_eq k2.hd, List.map_append]; rfl
def kvsT (ts : List Tl) : List (List Int × PV) := ts.map fun t => (t.key, t.e.pv)
theorem getT_none {ts : List Tl} {a c : Int} (h : ∀ t ∈ ts, t.key ≠ [a, c]) : SM.getD (kvsT ts) [a, c] = none := by
  unfold SM.getD kvsT
  rw [List.find?_eq_none.mpr]
  · rfl
  · intro p hp
    obtain ⟨t, ht, rfl⟩ := List.mem_map.mp hp
    simpa using h t ht
theorem getT_some : ∀ {ts : List Tl} {t : Tl}, (ts.map Tl.key).Nodup → t ∈ ts → SM.getD (kvsT ts) [t.st, t.src] = some t.e.pv
  | [], _, _, h => by cases h
  | x :: ts, t, nd, h => by
    rw [List.map_cons, List.nodup_cons] at nd
    unfold SM.getD kvsT
    rw [List.map_cons]
    by_cases c : x.key = [t.st, t.src]
    · rw [List.find?_cons_of_pos (by simpa using c)]
      rcases List.mem_cons.mp h with rfl | h
      · rfl
      · exact absurd (List.mem_map.mpr ⟨t, h, c.symm⟩) nd.1
    · rw [List.find?_cons_of_neg (by simpa using c)]
      rcases List.mem_cons.mp h with rfl | h
      · exact absurd rfl c
      · exact getT_some nd.2 h
theorem put_new {acc : List Tl} {t : Tl} (h : t.key ∉ acc.map Tl.key) : putD (kvsT acc) [t.st, t.src] t.e.pv = kvsT (acc ++ [t]) := by
  unfold putD
  have e : ((kvsT acc).any fun p => decide (p.1 = [t.st, t.src])) = false := by
    rw [List.any_eq_false]
    intro p hp
    obtain ⟨u, hu, rfl⟩ := List.mem_map.mp hp
    have : u.key ≠ t.key := fun z => h (List.mem_map.mpr ⟨u, hu, z⟩)
    exact fun z => this (of_decide_eq_true z)
  rw [e]
  unfold kvsT
  rw [List.map_append]
  rfl
theorem w_dctT {se : SE} {x0 x1 x2 x3 x4 x5 x6 : Option PV} {m : MH} {Q : PV → MH → Prop} {E : EX} (h : WP (se [x0, x1, x2, x3, x4, x5, x6] m) (fun x m1 => ∃ (n : Nat) (ts : List Tl), x = .ref n ∧ m1[n]? = some (.lst (ts.map Tl.pv)) ∧ (ts.map Tl.key).Nodup ∧ ts.length ≤ 10000 ∧ Q (.ref m1.length) (m1 ++ [.dct (kvsT ts)])) NoE) :
    WP (sDcT (iSeq se) (gTupS 3 (gConsS (gNm 3) (gConsS (gNm 4) (gConsS (gNm 5) gNilS)))) tYesS (aCons (sVar 3) (aCons (sVar 4) aNil)) (sVar 5) [3, 4, 5] [x0, x1, x2, x3, x4, x5, x6] m) Q E := by
  obtain ⟨x, m1, ee, n, ts, rfl, hn, nd, hl, q⟩ := h.run
  unfold sDcT
  rw [si_seqL ee (seq_of_lst hn)]
  have key : ∀ (us acc : List Tl), acc ++ us = ts → compDT ⟨ts.map Tl.pv, some n⟩ (gTupS 3 (gConsS (gNm 3) (gConsS (gNm 4) (gConsS (gNm 5) gNilS)))) tYesS (aCons (sVar 3) (aCons (sVar 4) aNil)) (sVar 5) m1.length [x0, x1, x2, none, none, none, x6] (us.map Tl.pv) (m1 ++ [.dct (kvsT acc)]) = .ok (.ref m1.length) (m1 ++ [.dct (kvsT ts)]) := by
    intro us
    induction us with
    | nil =>
      intro acc e
      rw [List.append_nil] at e
      subst e
      rw [List.map_nil]
      unfold compDT
      rw [if_pos (show ITM.ok ⟨acc.map Tl.pv, some n⟩ (m1 ++ [.dct (kvsT acc)]) from seq_of_lst (get_old hn))]
    | cons t us ih =>
      intro acc e
      have hk : t.key ∉ acc.map Tl.key := by
        rw [← e, List.map_append, List.map_cons] at nd
        intro hm
        exact (List.nodup_append.mp nd).2.2 _ hm _ List.mem_cons_self rfl
      have hal : acc.length < 10000 := by rw [← e, List.length_append, List.length_cons] at hl; omega
      rw [List.map_cons]
      unfold compDT
      rw [if_pos (show ITM.ok ⟨ts.map Tl.pv, some n⟩ (m1 ++ [.dct (kvsT acc)]) from seq_of_lst (get_old hn))]
      have e1 : gTupS 3 (gConsS (gNm 3) (gConsS (gNm 4) (gConsS (gNm 5) gNilS))) t.pv [x0, x1, x2, none, none, none, x6] (m1 ++ [.dct (kvsT acc)]) = some ([x0, x1, x2, some (.int t.st), some (.int t.src), some t.e.pv, x6], m1 ++ [.dct (kvsT acc)]) := rfl
      rw [e1]
      dsimp only
      have e2 : tYesS [x0, x1, x2, some (.int t.st), some (.int t.src), some t.e.pv, x6] (m1 ++ [.dct (kvsT acc)]) = .ok true (m1 ++ [.dct (kvsT acc)]) := rfl
      rw [e2]
      dsimp only
      rw [if_pos rfl]
      have e3 : aCons (sVar 3) (aCons (sVar 4) aNil) [x0, x1, x2, some (.int t.st), some (.int t.src), some t.e.pv, x6] (m1 ++ [.dct (kvsT acc)]) = .ok [.int t.st, .int t.src] (m1 ++ [.dct (kvsT acc)]) := rfl
      rw [e3]
      dsimp only
      have e4 : sVar 5 [x0, x1, x2, some (.int t.st), some (.int t.src), some t.e.pv, x6] (m1 ++ [.dct (kvsT acc)]) = .ok t.e.pv (m1 ++ [.dct (kvsT acc)]) := rfl
      rw [e4]
      dsimp only
      unfold cput
      rw [get_new]
      dsimp only
      rw [if_pos (by unfold kvsT; rw [List.length_map]; omega), put_new hk, set_new]
      exact ih (acc ++ [t]) (by rw [← e]; simp)
  have e := key ts [] rfl
  show WP (compDT ⟨ts.map Tl.pv, some n⟩ _ tYesS _ _ m1.length [x0, x1, x2, none, none, none, x6] (ts.map Tl.pv) (m1 ++ [.dct []])) Q E
  rw [show ([] : List (List Int × PV)) = kvsT [] from rfl, e, wp_ok]
  exact q
noncomputable def fr (ts us : List Tl) : List Tl := (srt us).filter fun u => decide (u.key ∉ ts.map Tl.key)
theorem fr_len {ts us : List Tl} : (fr ts us).length ≤ us.length := Nat.le_trans (List.length_filter_le _ _) (by rw [srt_len]; exact Nat.le_refl _)
theorem merge_ok {m : MH} {b h b2 h2 : Nat} {i i2 : Int} {ts us : List Tl} {L : List Loft} {B : List Bird} {R : List Race} (hC : ClubG L B R) (k : Bk m b h i (clubPV L B R) ts) (k2 : Bk m b2 h2 i2 (clubPV L B R) us) (nd : (ts.map Tl.key).Nodup)
    (cl : ∀ t ∈ ts, ∀ u ∈ us, t.key = u.key → t = u) (ok : ∀ t ∈ us, EnOk L B R t.e) (hl : ts.length + us.length ≤ 80) (h1 : m[1]? = some (.tbl tabP lamQ)) :
    WP (f_Book_merge [.ref b, .ref b2] m) (fun x m' => x = .int ((fr ts us).length : Nat) ∧ Bk m' b h i (clubPV L B R) (ts ++ fr ts us) ∧ FrK h m m') NoE := by
  have hbh := k.ne
  have frl := fr_len (ts := ts) (us := us)
  obtain ⟨cd, hcd⟩ := club_dd hC
  have ec : ∀ m, SM.eqV m (clubPV L B R) (clubPV L B R) = some true := fun m => eq_dd hcd
  have hm := (List.getElem?_eq_some_iff.mp k.hd).1
  unfold f_Book_merge b_Book_merge
  walk_at "w1"
  rw [s_seq]
  try simp -dsimp only [w_fld, fld_r k.ob (i := 1) rfl, w_methB, at0, at1, at2, at3, at4, at5, at6, wp_fn, s_nil, s_brk, s_cnt, s_expr, s_ret, s_retN, s_if, s_asn, s_par, s_asg, g_nm, g_nil, g_cons, g_tupT, g_subW, w_v0, w_vS, w_c, w_op, w_un, w_anil, w_acons, w_tup, w_lst, w_call, w_callU, w_isi, w_meth, w_tru, w_bool, w_notS, w_andS, w_orS, w_ifx, w_andV, w_orV, w_notV, w_chain, wp_ok, wp_bad, wp_some, wp_none, wp_liftif, wp_if, asB_b, wp_noex, add_ii, sub_ii, mul_ii, fdiv_ii, mod_ii, pow_ii, neg_i, cmp_ii, lt_ii, le_ii, gt_ii, ge_ii, le_cc, muls_ii, muls_si, ins_cs, iadd_ii, isub_ii, w_onone, w_osome, w_sl, sl_s, sl_t, s_aug, eq_ss, len_s, ix_s, add_ss, str_s, tuple_t, list_t, is_n, not_n, non_n, non_i, non_b, non_s, non_t, non_r, abs_i, max_ii, min_ii, int_i, int_b, gcd_ii, len_t, ix_t, eq_v, ne_v, eq_ii, eq_bb, eq_nn, eq_in, eq_ni, iv_n_list, iv_n_tuple, iv_n_bool, iv_n_str, iv_n_int, okt_n, iv_b_list, iv_b_tuple, iv_b_bool, iv_b_str, iv_b_int, okt_b, iv_i_list, iv_i_tuple, iv_i_bool, iv_i_str, iv_i_int, okt_i, iv_s_list, iv_s_tuple, iv_s_bool, iv_s_str, iv_s_int, okt_s, iv_t_list, iv_t_tuple, iv_t_bool, iv_t_str, iv_t_int, okt_t, iv_r_list, iv_r_tuple, iv_r_bool, iv_r_str, iv_r_int, tru_b, tru_i, tru_n, tru_t, Option.map_some, Option.map_none, List.map_cons, List.map_nil, List.length_cons, List.length_nil, List.set_cons_zero, List.set_cons_succ, List.cons_append, List.nil_append, List.replicate, Nat.reduceAdd, Nat.reduceSub, Nat.reduceLeDiff, true_and, and_true, decide_eq_true_eq, reduceIte, Bool.false_eq_true, Bool.not_true, Bool.not_false, decide_true, decide_false]
  refine ⟨isIns_r k2.ob, (bclub_ok k2).mono ?_⟩
  rintro _ m ⟨rfl, rfl⟩
  try simp -dsimp only [ec, at0, at1, at2, at3, at4, at5, at6, wp_fn, s_nil, s_brk, s_cnt, s_expr, s_ret, s_retN, s_if, s_asn, s_par, s_asg, g_nm, g_nil, g_cons, g_tupT, g_subW, w_v0, w_vS, w_c, w_op, w_un, w_anil, w_acons, w_tup, w_lst, w_call, w_callU, w_isi, w_meth, w_tru, w_bool, w_notS, w_andS, w_orS, w_ifx, w_andV, w_orV, w_notV, w_chain, wp_ok, wp_bad, wp_some, wp_none, wp_liftif, wp_if, asB_b, wp_noex, add_ii, sub_ii, mul_ii, fdiv_ii, mod_ii, pow_ii, neg_i, cmp_ii, lt_ii, le_ii, gt_ii, ge_ii, le_cc, muls_ii, muls_si, ins_cs, iadd_ii, isub_ii, w_onone, w_osome, w_sl, sl_s, sl_t, s_aug, eq_ss, len_s, ix_s, add_ss, str_s, tuple_t, list_t, is_n, not_n, non_n, non_i, non_b, non_s, non_t, non_r, abs_i, max_ii, min_ii, int_i, int_b, gcd_ii, len_t, ix_t, eq_v, ne_v, eq_ii, eq_bb, eq_nn, eq_in, eq_ni, iv_n_list, iv_n_tuple, iv_n_bool, iv_n_str, iv_n_int, okt_n, iv_b_list, iv_b_tuple, iv_b_bool, iv_b_str, iv_b_int, okt_b, iv_i_list, iv_i_tuple, iv_i_bool, iv_i_str, iv_i_int, okt_i, iv_s_list, iv_s_tuple, iv_s_bool, iv_s_str, iv_s_int, okt_s, iv_t_list, iv_t_tuple, iv_t_bool, iv_t_str, iv_t_int, okt_t, iv_r_list, iv_r_tuple, iv_r_bool, iv_r_str, iv_r_int, tru_b, tru_i, tru_n, tru_t, Option.map_some, Option.map_none, List.map_cons, List.map_nil, List.length_cons, List.length_nil, List.set_cons_zero, List.set_cons_succ, List.cons_append, List.nil_append, List.replicate, Nat.reduceAdd, Nat.reduceSub, Nat.reduceLeDiff, true_and, and_true, decide_eq_true_eq, reduceIte, Bool.false_eq_true, Bool.not_true, Bool.not_false, decide_true, decide_false]
  rw [s_seq]
  walk_at "w0"
  refine w_dctT ?_
  try simp -dsimp only [w_fld, fld_r k.ob (i := 2) rfl, at0, at1, at2, at3, at4, at5, at6, wp_fn, s_nil, s_brk, s_cnt, s_expr, s_ret, s_retN, s_if, s_asn, s_par, s_asg, g_nm, g_nil, g_cons, g_tupT, g_subW, w_v0, w_vS, w_c, w_op, w_un, w_anil, w_acons, w_tup, w_lst, w_call, w_callU, w_isi, w_meth, w_tru, w_bool, w_notS, w_andS, w_orS, w_ifx, w_andV, w_orV, w_notV, w_chain, wp_ok, wp_bad, wp_some, wp_none, wp_liftif, wp_if, asB_b, wp_noex, add_ii, sub_ii, mul_ii, fdiv_ii, mod_ii, pow_ii, neg_i, cmp_ii, lt_ii, le_ii, gt_ii, ge_ii, le_cc, muls_ii, muls_si, ins_cs, iadd_ii, isub_ii, w_onone, w_osome, w_sl, sl_s, sl_t, s_aug, eq_ss, len_s, ix_s, add_ss, str_s, tuple_t, list_t, is_n, not_n, non_n, non_i, non_b, non_s, non_t, non_r, abs_i, max_ii, min_ii, int_i, int_b, gcd_ii, len_t, ix_t, eq_v, ne_v, eq_ii, eq_bb, eq_nn, eq_in, eq_ni, iv_n_list, iv_n_tuple, iv_n_bool, iv_n_str, iv_n_int, okt_n, iv_b_list, iv_b_tuple, iv_b_bool, iv_b_str, iv_b_int, okt_b, iv_i_list, iv_i_tuple, iv_i_bool, iv_i_str, iv_i_int, okt_i, iv_s_list, iv_s_tuple, iv_s_bool, iv_s_str, iv_s_int, okt_s, iv_t_list, iv_t_tuple, iv_t_bool, iv_t_str, iv_t_int, okt_t, iv_r_list, iv_r_tuple, iv_r_bool, iv_r_str, iv_r_int, tru_b, tru_i, tru_n, tru_t, Option.map_some, Option.map_none, List.map_cons, List.map_nil, List.length_cons, List.length_nil, List.set_cons_zero, List.set_cons_succ, List.cons_append, List.nil_append, List.replicate, Nat.reduceAdd, Nat.reduceSub, Nat.reduceLeDiff, true_and, and_true, decide_eq_true_eq, reduceIte, Bool.false_eq_true, Bool.not_true, Bool.not_false, decide_true, decide_false]
  refine ⟨h, ts, rfl, k.hd, nd, by omega, ?_⟩
  walk_at "w0"
  rw [s_seq]
  walk_at "w0"
  have PD := get_old (o := MO.lst []) (get_new (m := m) (o := MO.dct (kvsT ts)))
  have PF := get_new (m := m ++ [MO.dct (kvsT ts)]) (o := MO.lst [])
  have G1 := (Gr.one (m := m) (o := MO.dct (kvsT ts))).push (MO.lst [])
  have hfn : m.length < (m ++ [MO.dct (kvsT ts)]).length := by simp
  generalize (m ++ [MO.dct (kvsT ts)]) ++ [MO.lst []] = m2 at *
  generalize (m ++ [MO.dct (kvsT ts)]).length = fn at *
  obtain ⟨dn, edn⟩ : ∃ dn, dn = m.length := ⟨_, rfl⟩
  rw [← edn] at PD hfn ⊢
  rw [s_seq]
  refine s_forLW ?_
  try simp -dsimp only [w_methB, at0, at1, at2, at3, at4, at5, at6, wp_fn, s_nil, s_brk, s_cnt, s_expr, s_ret, s_retN, s_if, s_asn, s_par, s_asg, g_nm, g_nil, g_cons, g_tupT, g_subW, w_v0, w_vS, w_c, w_op, w_un, w_anil, w_acons, w_tup, w_lst, w_call, w_callU, w_isi, w_meth, w_tru, w_bool, w_notS, w_andS, w_orS, w_ifx, w_andV, w_orV, w_notV, w_chain, wp_ok, wp_bad, wp_some, wp_none, wp_liftif, wp_if, asB_b, wp_noex, add_ii, sub_ii, mul_ii, fdiv_ii, mod_ii, pow_ii, neg_i, cmp_ii, lt_ii, le_ii, gt_ii, ge_ii, le_cc, muls_ii, muls_si, ins_cs, iadd_ii, isub_ii, w_onone, w_osome, w_sl, sl_s, sl_t, s_aug, eq_ss, len_s, ix_s, add_ss, str_s, tuple_t, list_t, is_n, not_n, non_n, non_i, non_b, non_s, non_t, non_r, abs_i, max_ii, min_ii, int_i, int_b, gcd_ii, len_t, ix_t, eq_v, ne_v, eq_ii, eq_bb, eq_nn, eq_in, eq_ni, iv_n_list, iv_n_tuple, iv_n_bool, iv_n_str, iv_n_int, okt_n, iv_b_list, iv_b_tuple, iv_b_bool, iv_b_str, iv_b_int, okt_b, iv_i_list, iv_i_tuple, iv_i_bool, iv_i_str, iv_i_int, okt_i, iv_s_list, iv_s_tuple, iv_s_bool, iv_s_str, iv_s_int, okt_s, iv_t_list, iv_t_tuple, iv_t_bool, iv_t_str, iv_t_int, okt_t, iv_r_list, iv_r_tuple, iv_r_bool, iv_r_str, iv_r_int, tru_b, tru_i, tru_n, tru_t, Option.map_some, Option.map_none, List.map_cons, List.map_nil, List.length_cons, List.length_nil, List.set_cons_zero, List.set_cons_succ, List.cons_append, List.nil_append, List.replicate, Nat.reduceAdd, Nat.reduceSub, Nat.reduceLeDiff, true_and, and_true, decide_eq_true_eq, reduceIte, Bool.false_eq_true, Bool.not_true, Bool.not_false, decide_true, decide_false]
  refine ⟨isIns_r (k2.gr G1).ob, (tellings_ok (k2.gr G1) (G1.get _ _ h1)).mono ?_⟩
  rintro _ _ ⟨rfl, rfl⟩
  have PD3 := get_old (o := MO.lst ((srt us).map Tl.pv)) PD
  have PF3 := get_old (o := MO.lst ((srt us).map Tl.pv)) PF
  have PT3 := get_new (m := m2) (o := MO.lst ((srt us).map Tl.pv))
  have G3 := G1.push (MO.lst ((srt us).map Tl.pv))
  have hft : fn < m2.length := (List.getElem?_eq_some_iff.mp PF).1
  generalize m2 ++ [MO.lst ((srt us).map Tl.pv)] = m3 at *
  generalize m2.length = tn at *
  have hul := srt_len (ts := us)
  refine ⟨tn, _, rfl, seq_of_lst PT3, fun j l m' => ∃ x3 x4 x5 : Option PV, l = [some (.ref b), some (.ref b2), some (.ref dn), x3, x4, x5, some (.ref fn)] ∧ m'[dn]? = some (.dct (kvsT ts)) ∧ m'[fn]? = some (.lst ((((srt us).take j).filter fun u => decide (u.key ∉ ts.map Tl.key)).map Tl.pv)) ∧ m'[tn]? = some (.lst ((srt us).map Tl.pv)) ∧ Gr m m', ⟨_, _, _, rfl, PD3, PF3, PT3, G3⟩, ?_, ?_, ?_⟩
  · rintro j l m' ⟨x3, x4, x5, rfl, PD, PF, PT, G⟩
    exact seq_of_lst PT
  · clear PD PF PD3 PF3 PT3 G1 G3
    rintro j x l m' hx ⟨x3, x4, x5, rfl, PD, PF, PT, G⟩
    rw [List.getElem?_map] at hx
    cases es : (srt us)[j]? with
    | none => rw [es] at hx; cases hx
    | some t =>
    rw [es] at hx
    cases hx
    have et : (srt us).take (j + 1) = (srt us).take j ++ [t] := by rw [List.take_succ, es]; rfl
    have htu : t ∈ us := srt_mem.mp (List.mem_of_getElem? es)
    have hlf : ((((srt us).take j).filter fun u => decide (u.key ∉ ts.map Tl.key)).map Tl.pv).length ≤ 80 := by
      rw [List.length_map]
      exact Nat.le_trans (List.length_filter_le _ _) (by rw [List.length_take]; omega)
    unfold Book_merge_l1 Tl.pv at *
    walk_at "w0"
    refine w_ninT ?_
    walk_at "w0"
    refine ⟨t.st, t.src, dn, _, rfl, rfl, PD, ?_⟩
    walk_at "w0"
    by_cases c : t.key ∈ ts.map Tl.key
    · obtain ⟨u, hu, eu⟩ := List.mem_map.mp c
      have e0 := cl u hu t htu eu
      subst e0
      rw [getT_some nd hu]
      obtain ⟨d, hd⟩ := en_dd (ok u htu) 7
      try simp -dsimp only [dget_r PD (getT_some nd hu), show SM.eqV m' u.e.pv u.e.pv = some true from eq_dd hd, at0, at1, at2, at3, at4, at5, at6, wp_fn, s_nil, s_brk, s_cnt, s_expr, s_ret, s_retN, s_if, s_asn, s_par, s_asg, g_nm, g_nil, g_cons, g_tupT, g_subW, w_v0, w_vS, w_c, w_op, w_un, w_anil, w_acons, w_tup, w_lst, w_call, w_callU, w_isi, w_meth, w_tru, w_bool, w_notS, w_andS, w_orS, w_ifx, w_andV, w_orV, w_notV, w_chain, wp_ok, wp_bad, wp_some, wp_none, wp_liftif, wp_if, asB_b, wp_noex, add_ii, sub_ii, mul_ii, fdiv_ii, mod_ii, pow_ii, neg_i, cmp_ii, lt_ii, le_ii, gt_ii, ge_ii, le_cc, muls_ii, muls_si, ins_cs, iadd_ii, isub_ii, w_onone, w_osome, w_sl, sl_s, sl_t, s_aug, eq_ss, len_s, ix_s, add_ss, str_s, tuple_t, list_t, is_n, not_n, non_n, non_i, non_b, non_s, non_t, non_r, abs_i, max_ii, min_ii, int_i, int_b, gcd_ii, len_t, ix_t, eq_v, ne_v, eq_ii, eq_bb, eq_nn, eq_in, eq_ni, iv_n_list, iv_n_tuple, iv_n_bool, iv_n_str, iv_n_int, okt_n, iv_b_list, iv_b_tuple, iv_b_bool, iv_b_str, iv_b_int, okt_b, iv_i_list, iv_i_tuple, iv_i_bool, iv_i_str, iv_i_int, okt_i, iv_s_list, iv_s_tuple, iv_s_bool, iv_s_str, iv_s_int, okt_s, iv_t_list, iv_t_tuple, iv_t_bool, iv_t_str, iv_t_int, okt_t, iv_r_list, iv_r_tuple, iv_r_bool, iv_r_str, iv_r_int, tru_b, tru_i, tru_n, tru_t, Option.map_some, Option.map_none, List.map_cons, List.map_nil, List.length_cons, List.length_nil, List.set_cons_zero, List.set_cons_succ, List.cons_append, List.nil_append, List.replicate, Nat.reduceAdd, Nat.reduceSub, Nat.reduceLeDiff, true_and, and_true, decide_eq_true_eq, reduceIte, Bool.false_eq_true, Bool.not_true, Bool.not_false, decide_true, decide_false]
      have ep : decide (u.key ∉ ts.map Tl.key) = false := decide_eq_false fun z => z c
      refine ⟨_, _, _, rfl, PD, ?_, PT, G⟩
      rw [et, List.filter_append, List.filter_cons, ep]
      simpa using PF
    · rw [getT_none fun u hu z => c (List.mem_map.mpr ⟨u, hu, z⟩)]
      walk_at "w0"
      refine ⟨isLst_r PF, ?_⟩
      rw [append_r PF (by omega)]
      walk_at "w0"
      refine ⟨_, _, _, rfl, by rw [List.getElem?_set_ne (by omega)]; exact PD, (getD_set_eq PF).trans ?_, by rw [List.getElem?_set_ne (by omega)]; exact PT, G.set (by omega)⟩
      have ep : decide (t.key ∉ ts.map Tl.key) = true := decide_eq_true c
      rw [et, List.filter_append, List.map_append, List.filter_cons, ep]
      simp
  · clear PD PF PD3 PF3 PT3 G1 G3
    rintro l m' ⟨x3, x4, x5, rfl, PD, PF, PT, G⟩
    rw [List.length_map, List.take_length] at PF
    have PF : m'[fn]? = some (.lst ((fr ts us).map Tl.pv)) := PF
    have k' := k.gr G
    walk_at "w1"
    rw [s_seq]
    try simp -dsimp only [w_fld, fld_r k'.ob (i := 2) rfl, at0, at1, at2, at3, at4, at5, at6, wp_fn, s_nil, s_brk, s_cnt, s_expr, s_ret, s_retN, s_if, s_asn, s_par, s_asg, g_nm, g_nil, g_cons, g_tupT, g_subW, w_v0, w_vS, w_c, w_op, w_un, w_anil, w_acons, w_tup, w_lst, w_call, w_callU, w_isi, w_meth, w_tru, w_bool, w_notS, w_andS, w_orS, w_ifx, w_andV, w_orV, w_notV, w_chain, wp_ok, wp_bad, wp_some, wp_none, wp_liftif, wp_if, asB_b, wp_noex, add_ii, sub_ii, mul_ii, fdiv_ii, mod_ii, pow_ii, neg_i, cmp_ii, lt_ii, le_ii, gt_ii, ge_ii, le_cc, muls_ii, muls_si, ins_cs, iadd_ii, isub_ii, w_onone, w_osome, w_sl, sl_s, sl_t, s_aug, eq_ss, len_s, ix_s, add_ss, str_s, tuple_t, list_t, is_n, not_n, non_n, non_i, non_b, non_s, non_t, non_r, abs_i, max_ii, min_ii, int_i, int_b, gcd_ii, len_t, ix_t, eq_v, ne_v, eq_ii, eq_bb, eq_nn, eq_in, eq_ni, iv_n_list, iv_n_tuple, iv_n_bool, iv_n_str, iv_n_int, okt_n, iv_b_list, iv_b_tuple, iv_b_bool, iv_b_str, iv_b_int, okt_b, iv_i_list, iv_i_tuple, iv_i_bool, iv_i_str, iv_i_int, okt_i, iv_s_list, iv_s_tuple, iv_s_bool, iv_s_str, iv_s_int, okt_s, iv_t_list, iv_t_tuple, iv_t_bool, iv_t_str, iv_t_int, okt_t, iv_r_list, iv_r_tuple, iv_r_bool, iv_r_str, iv_r_int, tru_b, tru_i, tru_n, tru_t, Option.map_some, Option.map_none, List.map_cons, List.map_nil, List.length_cons, List.length_nil, List.set_cons_zero, List.set_cons_succ, List.cons_append, List.nil_append, List.replicate, Nat.reduceAdd, Nat.reduceSub, Nat.reduceLeDiff, true_and, and_true, decide_eq_true_eq, reduceIte, Bool.false_eq_true, Bool.not_true, Bool.not_false, decide_true, decide_false]
    rw [len_r (seq_of_lst k'.hd), List.length_map]
    walk_at "w0"
    rw [len_r (seq_of_lst PF), List.length_map]
    walk_at "w0"
    rw [if_neg (by omega)]
    walk_at "w0"
    rw [s_seq]
    try simp -dsimp only [w_fld, fld_r k'.ob (i := 2) rfl, at0, at1, at2, at3, at4, at5, at6, wp_fn, s_nil, s_brk, s_cnt, s_expr, s_ret, s_retN, s_if, s_asn, s_par, s_asg, g_nm, g_nil, g_cons, g_tupT, g_subW, w_v0, w_vS, w_c, w_op, w_un, w_anil, w_acons, w_tup, w_lst, w_call, w_callU, w_isi, w_meth, w_tru, w_bool, w_notS, w_andS, w_orS, w_ifx, w_andV, w_orV, w_notV, w_chain, wp_ok, wp_bad, wp_some, wp_none, wp_liftif, wp_if, asB_b, wp_noex, add_ii, sub_ii, mul_ii, fdiv_ii, mod_ii, pow_ii, neg_i, cmp_ii, lt_ii, le_ii, gt_ii, ge_ii, le_cc, muls_ii, muls_si, ins_cs, iadd_ii, isub_ii, w_onone, w_osome, w_sl, sl_s, sl_t, s_aug, eq_ss, len_s, ix_s, add_ss, str_s, tuple_t, list_t, is_n, not_n, non_n, non_i, non_b, non_s, non_t, non_r, abs_i, max_ii, min_ii, int_i, int_b, gcd_ii, len_t, ix_t, eq_v, ne_v, eq_ii, eq_bb, eq_nn, eq_in, eq_ni, iv_n_list, iv_n_tuple, iv_n_bool, iv_n_str, iv_n_int, okt_n, iv_b_list, iv_b_tuple, iv_b_bool, iv_b_str, iv_b_int, okt_b, iv_i_list, iv_i_tuple, iv_i_bool, iv_i_str, iv_i_int, okt_i, iv_s_list, iv_s_tuple, iv_s_bool, iv_s_str, iv_s_int, okt_s, iv_t_list, iv_t_tuple, iv_t_bool, iv_t_str, iv_t_int, okt_t, iv_r_list, iv_r_tuple, iv_r_bool, iv_r_str, iv_r_int, tru_b, tru_i, tru_n, tru_t, Option.map_some, Option.map_none, List.map_cons, List.map_nil, List.length_cons, List.length_nil, List.set_cons_zero, List.set_cons_succ, List.cons_append, List.nil_append, List.replicate, Nat.reduceAdd, Nat.reduceSub, Nat.reduceLeDiff, true_and, and_true, decide_eq_true_eq, reduceIte, Bool.false_eq_true, Bool.not_true, Bool.not_false, decide_true, decide_false]
    refine ⟨isLst_r k'.hd, ?_⟩
    rw [extend_r k'.hd PF (by rw [List.length_map, List.length_map]; omega)]
    walk_at "w0"
    have hne : fn ≠ h := by omega
    have PF2 : (m'.set h (.lst (ts.map Tl.pv ++ (fr ts us).map Tl.pv)))[fn]? = some (.lst ((fr ts us).map Tl.pv)) := by rw [List.getElem?_set_ne (Ne.symm hne)]; exact PF
    rw [len_r (seq_of_lst PF2), List.length_map]
    walk_at "w0"
    refine ⟨⟨?_, ?_⟩, (G.frk).trans FrK.set⟩
    · rw [List.getElem?_set_ne (by omega)]; exact k'.ob
    · rw [getD_set_eq k'.hd, List.map_append]
def parts (kd : List Nat) (ts : List Tl) : List PV := (ts.filter fun t => decide (t.e.kind = kd)).map fun t => .tup t.e.rest
def PA (k : Nat) (ts : List Tl) (m : MH) : List PV → List (List Nat) → Prop
  | [], [] => True
  | x :: xs, kd :: ks => (∃ r, x = .ref r ∧ r ≠ k ∧ m[r]? = some (.lst (parts kd ts))) ∧ PA k ts m xs ks
  | _, _ => False
theorem PA.fr {k : Nat} {ts : List Tl} {m m' : MH} (g : FrK k m m') : ∀ {xs : List PV} {ks : List (List Nat)}, PA k ts m xs ks → PA k ts m' xs ks
  | [], [], _ => trivial
  | x :: xs, kd :: ks, ⟨⟨r, e, hr, h⟩, h2⟩ => ⟨⟨r, e, hr, g.2 _ _ hr h⟩, PA.fr g h2⟩
  | [], _ :: _, h => h
  | _ :: _, [], h => h
theorem PA.snoc {k r : Nat} {ts : List Tl} {m : MH} {kd : List Nat} (hr : r ≠ k) (h : m[r]? = some (.lst (parts kd ts))) : ∀ {xs : List PV} {ks : List (List Nat)}, PA k ts m xs ks → PA k ts m (xs ++ [.ref r]) (ks ++ [kd])
  | [], [], _ => ⟨⟨r, rfl, hr, h⟩, trivial⟩
  | x :: xs, kd :: ks, ⟨h1, h2⟩ => ⟨h1, PA.snoc hr h h2⟩
  | [], _ :: _, h => h.elim
  | _ :: _, [], h => h.elim
def rdD : PV → PyData
  | .int k => .int k
  | _ => .none
def En.datR : En → List PyData
  | .clk c => [.int (c.race : Nat), .int (c.loft : Nat), .int c.b, .int c.e, .int c.s]
  | .stk r g u => [.int (r : Nat), .int g, .int u]
  | .tra g r o => [.int g, .int (r : Nat), .str ⟨o.toArray⟩]
  | .slp r g v => [.int (r : Nat), .int g, rdD v]
theorem rest_dat {L : List Loft} {B : List Bird} {R : List Race} {e : En} (h : EnOk L B R e) (n : Nat) : DDs n e.rest e.datR := by
  cases e with
  | clk c => exact .cons dd_int (.cons dd_int (.cons dd_int (.cons dd_int (.cons dd_int .nil))))
  | stk r g u => exact .cons dd_int (.cons dd_int (.cons dd_int .nil))
  | tra g r o => exact .cons dd_int (.cons dd_int (.cons (dd_str (ten_lt o h.2.2)) .nil))
  | slp r g v =>
    rcases h.2.2 with rfl | ⟨k, rfl, _⟩
    · exact .cons dd_int (.cons dd_int (.cons dd_non .nil))
    · exact .cons dd_int (.cons dd_int (.cons dd_int .nil))
theorem nd_len : ∀ {xs ys : List (List Int)}, xs.Nodup → (∀ x ∈ xs, x ∈ ys) → xs.length ≤ ys.length
  | [], _, _, _ => Nat.zero_le _
  | x :: xs, ys, nd, h => by
    obtain ⟨n1, n2⟩ := List.nodup_cons.mp nd
    have ih := nd_len (xs := xs) (ys := ys.erase x) n2 fun z hz => by
      have hne : z ≠ x := fun e => n1 (e ▸ hz)
      exact (List.mem_erase_of_ne hne).mpr (h z (List.mem_cons_of_mem _ hz))
    have hx := h x List.mem_cons_self
    rw [List.length_erase_of_mem hx] at ih
    have := List.length_pos_of_mem hx
    rw [List.length_cons]
    omega
structure GI (L : List Loft) (B : List Bird) (R : List Race) (U : List Tl) (ts : Nat → List Tl) (n : Nat) : Prop where
  und : (U.map Tl.key).Nodup
  sub : ∀ j, j < 3 → ∀ t ∈ ts j, t ∈ U
  nd : ∀ j, j < 3 → ((ts j).map Tl.key).Nodup
  own : ∀ t ∈ U, ∀ j : Nat, j < 3 → t.src = (j : Int) + 1 → t ∈ ts j
  ok : ∀ t ∈ U, EnOk L B R t.e ∧ 0 ≤ t.st
  len : U.length ≤ n
section
variable {L : List Loft} {B : List Bird} {R : List Race} {U : List Tl} {ts : Nat → List Tl} {n : Nat}
theorem key_inj {U : List Tl} (und : (U.map Tl.key).Nodup) {t u : Tl} (ht : t ∈ U) (hu : u ∈ U) (e : t.key = u.key) : t = u := by
  obtain ⟨i, hi⟩ := List.getElem?_of_mem ht
  obtain ⟨j, hj⟩ := List.getElem?_of_mem hu
  have l1 := (List.getElem?_eq_some_iff.mp hi).1
  have := (List.getElem?_inj (l := U.map Tl.key) (i := i) (j := j) (by rw [List.length_map]; exact l1) und).mp (by
    rw [List.getElem?_map, List.getElem?_map, hi, hj]
    show some t.key = some u.key
    rw [e])
  subst this
  rw [hi] at hj
  exact Option.some.inj hj
theorem GI.oks (g : GI L B R U ts n) {j : Nat} (hj : j < 3) : ∀ t ∈ ts j, EnOk L B R t.e := fun t ht => (g.ok t (g.sub j hj t ht)).1
theorem GI.cl (g : GI L B R U ts n) {i j : Nat} (hi : i < 3) (hj : j < 3) : ∀ t ∈ ts i, ∀ u ∈ ts j, t.key = u.key → t = u := fun t ht u hu e => key_inj g.und (g.sub i hi t ht) (g.sub j hj u hu) e
theorem GI.le (g : GI L B R U ts n) {j : Nat} (hj : j < 3) : (ts j).length ≤ n := by
  have := nd_len (g.nd j hj) fun x hx => by
    obtain ⟨t, ht, e⟩ := List.mem_map.mp hx
    exact List.mem_map.mpr ⟨t, g.sub j hj t ht, e⟩
  rw [List.length_map, List.length_map] at this
  exact Nat.le_trans this g.len
theorem maxDf_ge {ns : List Int} : ∀ y ∈ ns, y ≤ maxDf ns 0 := by
  intro y hy
  unfold maxDf
  cases h : maxI ns with
  | none => cases ns with
    | nil => cases hy
    | cons a r => cases h
  | some k => exact (maxI_ok h).2 y hy
theorem maxDf_nn {ns : List Int} (h : ∀ y ∈ ns, 0 ≤ y) : 0 ≤ maxDf ns 0 := by
  unfold maxDf
  cases e : maxI ns with
  | none => exact Int.le_refl _
  | some k => exact h k (maxI_ok e).1
def put (ts : Nat → List Tl) (w : Nat) (xs : List Tl) : Nat → List Tl := fun j => if j = w then xs else ts j
theorem put_w {w : Nat} {xs : List Tl} : put ts w xs w = xs := if_pos rfl
theorem put_ne {w j : Nat} {xs : List Tl} (h : j ≠ w) : put ts w xs j = ts j := if_neg h
theorem GI.init : GI L B R [] (fun _ => []) 0 := ⟨List.nodup_nil, fun _ _ _ h => (by cases h), fun _ _ => List.nodup_nil, fun _ h => (by cases h), fun _ h => (by cases h), Nat.le_refl _⟩
theorem GI.more (g : GI L B R U ts n) : GI L B R U ts (n + 1) := ⟨g.und, g.sub, g.nd, g.own, g.ok, Nat.le_succ_of_le g.len⟩
theorem GI.tell (g : GI L B R U ts n) {w : Nat} (hw : w < 3) {e : En} (he : EnOk L B R e) : GI L B R (U ++ [⟨1 + maxDf ((ts w).map Tl.st) 0, (w : Int) + 1, e⟩]) (put ts w (ts w ++ [⟨1 + maxDf ((ts w).map Tl.st) 0, (w : Int) + 1, e⟩])) (n + 1) := by
  have hnn : 0 ≤ maxDf ((ts w).map Tl.st) 0 := maxDf_nn fun y hy => by
    obtain ⟨t, ht, rfl⟩ := List.mem_map.mp hy
    exact (g.ok t (g.sub w hw t ht)).2
  have fresh : (⟨1 + maxDf ((ts w).map Tl.st) 0, (w : Int) + 1, e⟩ : Tl).key ∉ U.map Tl.key := by
    intro hm
    obtain ⟨t, ht, ek⟩ := List.mem_map.mp hm
    unfold Tl.key at ek
    simp only [List.cons.injEq, and_true] at ek
    have h1 := g.own t ht w hw ek.2
    have h2 := maxDf_ge t.st (List.mem_map.mpr ⟨t, h1, rfl⟩)
    omega
  have freshw : (⟨1 + maxDf ((ts w).map Tl.st) 0, (w : Int) + 1, e⟩ : Tl).key ∉ (ts w).map Tl.key := fun hm => by
    obtain ⟨t, ht, ek⟩ := List.mem_map.mp hm
    exact fresh (List.mem_map.mpr ⟨t, g.sub w hw t ht, ek⟩)
  have snoc : ∀ {xs : List Tl} {t : Tl}, (xs.map Tl.key).Nodup → t.key ∉ xs.map Tl.key → ((xs ++ [t]).map Tl.key).Nodup := fun {xs t} h1 h2 => by
    rw [List.map_append, List.nodup_append]
    refine ⟨h1, by simp, fun a ha b hb => ?_⟩
    simp only [List.map_cons, List.map_nil, List.mem_singleton] at hb
    rintro rfl
    exact h2 (hb ▸ ha)
  refine ⟨snoc g.und fresh, fun j hj t ht => ?_, fun j hj => ?_, fun t ht j hj es => ?_, fun t ht => ?_, by rw [List.length_append]; have := g.len; simp; omega⟩
  · by_cases c : j = w
    · subst c
      rw [put_w] at ht
      rcases List.mem_append.mp ht with h | h
      · exact List.mem_append_left _ (g.sub _ hj t h)
      · exact List.mem_append_right _ h
    · rw [put_ne c] at ht
      exact List.mem_append_left _ (g.sub _ hj t ht)
  · by_cases c : j = w
    · subst c
      rw [put_w]
      exact snoc (g.nd _ hj) freshw
    · rw [put_ne c]
      exact g.nd _ hj
  · rcases List.mem_append.mp ht with h | h
    · by_cases c : j = w
      · subst c
        rw [put_w]
        exact List.mem_append_left _ (g.own t h _ hj es)
      · rw [put_ne c]
        exact g.own t h _ hj es
    · rw [List.mem_singleton.mp h] at es ⊢
      have c : j = w := by
        have es : (w : Int) + 1 = (j : Int) + 1 := es
        omega
      subst c
      rw [put_w]
      exact List.mem_append_right _ (List.mem_singleton.mpr rfl)
  · rcases List.mem_append.mp ht with h | h
    · exact g.ok t h
    · rw [List.mem_singleton.mp h]
      exact ⟨he, by show 0 ≤ 1 + _; omega⟩
theorem fr_mem {xs us : List Tl} {t : Tl} (h : t ∈ fr xs us) : t ∈ us ∧ t.key ∉ xs.map Tl.key := by
  obtain ⟨h1, h2⟩ := List.mem_filter.mp h
  exact ⟨srt_mem.mp h1, of_decide_eq_true h2⟩
theorem GI.merge (g : GI L B R U ts n) {w o : Nat} (hw : w < 3) (ho : o < 3) : GI L B R U (put ts w (ts w ++ fr (ts w) (ts o))) n := by
  refine ⟨g.und, fun j hj t ht => ?_, fun j hj => ?_, fun t ht j hj es => ?_, g.ok, g.len⟩
  · by_cases c : j = w
    · subst c
      rw [put_w] at ht
      rcases List.mem_append.mp ht with h | h
      · exact g.sub _ hj t h
      · exact g.sub _ ho t (fr_mem h).1
    · rw [put_ne c] at ht
      exact g.sub _ hj t ht
  · by_cases c : j = w
    · subst c
      rw [put_w, List.map_append, List.nodup_append]
      have nsrt : ((srt (ts o)).map Tl.key).Nodup := ((srt_perm (ts := ts o)).map Tl.key).nodup_iff.mpr (g.nd o ho)
      refine ⟨g.nd _ hj, List.Nodup.sublist (List.Sublist.map _ List.filter_sublist) nsrt, fun a ha b hb => ?_⟩
      rintro rfl
      obtain ⟨t, ht, rfl⟩ := List.mem_map.mp hb
      exact (fr_mem ht).2 ha
    · rw [put_ne c]
      exact g.nd _ hj
  · by_cases c : j = w
    · subst c
      rw [put_w]
      exact List.mem_append_left _ (g.own t ht _ hj es)
    · rw [put_ne c]
      exact g.own t ht _ hj es
end
theorem seq_fr {m m' : MH} {k n : Nat} {xs : List PV} (F : FrK k m m') (hk : n ≠ k) (h : seq? m n = some xs) : seq? m' n = some xs := by
  have hl := seq_lt h
  have e : m[n]? = some (m[n]'hl) := List.getElem?_eq_getElem hl
  have e2 := F.2 _ _ hk e
  unfold seq? at h ⊢
  rw [e2, ← e]
  exact h
def CA (k : Nat) (m : MH) : List PV → List (List PV) → Prop
  | [], [] => True
  | x :: xs, X :: ks => (∃ r, x = .ref r ∧ r ≠ k ∧ m[r]? = some (.lst X)) ∧ CA k m xs ks
  | _, _ => False
theorem CA.fr {k : Nat} {m m' : MH} (g : FrK k m m') : ∀ {xs : List PV} {ks : List (List PV)}, CA k m xs ks → CA k m' xs ks
  | [], [], _ => trivial
  | x :: xs, kd :: ks, ⟨⟨r, e, hr, h⟩, h2⟩ => ⟨⟨r, e, hr, g.2 _ _ hr h⟩, CA.fr g h2⟩
  | [], _ :: _, h => h
  | _ :: _, [], h => h
theorem CA.snoc {k r : Nat} {m : MH} {X : List PV} (hr : r ≠ k) (h : m[r]? = some (.lst X)) : ∀ {xs : List PV} {ks : List (List PV)}, CA k m xs ks → CA k m (xs ++ [.ref r]) (ks ++ [X])
  | [], [], _ => ⟨⟨r, rfl, hr, h⟩, trivial⟩
  | x :: xs, kd :: ks, ⟨h1, h2⟩ => ⟨h1, CA.snoc hr h h2⟩
  | [], _ :: _, h => h.elim
  | _ :: _, [], h => h.elim
theorem CA.len {k : Nat} {m : MH} : ∀ {xs : List PV} {ks : List (List PV)}, CA k m xs ks → xs.length = ks.length
  | [], [], _ => rfl
  | x :: xs, kd :: ks, ⟨_, h2⟩ => by rw [List.length_cons, List.length_cons, CA.len h2]
  | [], _ :: _, h => h.elim
  | _ :: _, [], h => h.elim
theorem CA.gr {k : Nat} {m m' : MH} (g : Gr m m') {xs : List PV} {ks : List (List PV)} (h : CA k m xs ks) : CA k m' xs ks := h.fr g.frk
structure BI (L : List Loft) (B : List Bird) (R : List Race) (m0 m : MH) (P : Nat) (b hh : Nat → Nat) (ts : Nat → List Tl) : Prop where
  gr : Gr m0 m
  pb : m[P]? = some (.lst [.ref (b 0), .ref (b 1), .ref (b 2)])
  bk : ∀ j, j < 3 → Bk m (b j) (hh j) ((j : Int) + 1) (clubPV L B R) (ts j)
  hP : ∀ j, j < 3 → hh j ≠ P
  hlo : ∀ j, j < 3 → m0.length ≤ hh j
  hd : ∀ i j, i < 3 → j < 3 → i ≠ j → hh i ≠ hh j
def GS (U : List Tl) (n : Nat) : Prop := ∀ t ∈ U, (∃ j : Nat, j < 3 ∧ t.src = (j : Int) + 1) ∧ 1 ≤ t.st ∧ t.st ≤ (n : Int)
theorem GS.more {U : List Tl} {n : Nat} (g : GS U n) : GS U (n + 1) := fun t ht => ⟨(g t ht).1, (g t ht).2.1, by have := (g t ht).2.2; omega⟩
theorem maxDf_le {ns : List Int} {k : Int} (hk : 0 ≤ k) (h : ∀ y ∈ ns, y ≤ k) : maxDf ns 0 ≤ k := by
  unfold maxDf
  cases e : maxI ns with
  | none => exact hk
  | some q => exact h q (maxI_ok e).1
theorem gr_frk {k : Nat} {m0 m m' : MH} (G : Gr m0 m) (F : FrK k m m') (h : m0.length ≤ k) : Gr m0 m' := ⟨Nat.le_trans G.len F.1, fun n o e => F.2 _ _ (by have := (List.getElem?_eq_some_iff.mp e).1; omega) (G.get _ _ e)⟩
theorem ix3 {m : MH} {n : Nat} {f : Nat → Nat} {w : Nat} (h : m[n]? = some (.lst [.ref (f 0), .ref (f 1), .ref (f 2)])) (hw : w < 3) : ixv (.ref n) (.int (w : Nat)) m = some (.ref (f w), m) := by
  rcases (by omega : w = 0 ∨ w = 1 ∨ w = 2) with rfl | rfl | rfl
  · rw [ix_r (seq_of_lst h)]; rfl
  · rw [ix_r (seq_of_lst h)]; rfl
  · rw [ix_r (seq_of_lst h)]; rfl
section
variable {L : List Loft} {B : List Bird} {R : List Race} {m0 m m1 : MH} {P : Nat} {b hh : Nat → Nat} {ts : Nat → List Tl} {U : List Tl} {n : Nat}
theorem BI.grow (I : BI L B R m0 m P b hh ts) (G : Gr m m1) : BI L B R m0 m1 P b hh ts := ⟨I.gr.trans G, G.get _ _ I.pb, fun j hj => (I.bk j hj).gr G, I.hP, I.hlo, I.hd⟩
theorem BI.bne (I : BI L B R m0 m P b hh ts) {i : Nat} (hi : i < 3) {k : Nat} {xs : List PV} (h : m[k]? = some (.lst xs)) : b i ≠ k := fun z => by
  have := (I.bk i hi).ob
  rw [z, h] at this
  cases this
theorem BI.upd (I : BI L B R m0 m P b hh ts) {w : Nat} (hw : w < 3) {xs : List Tl} (F : FrK (hh w) m m1) (K : Bk m1 (b w) (hh w) ((w : Int) + 1) (clubPV L B R) xs) : BI L B R m0 m1 P b hh (put ts w xs) := by
  refine ⟨gr_frk I.gr F (I.hlo w hw), F.2 _ _ (fun z => I.hP w hw z.symm) I.pb, fun j hj => ?_, I.hP, I.hlo, I.hd⟩
  by_cases c : j = w
  · subst c
    rw [put_w]
    exact K
  · rw [put_ne c]
    exact (I.bk j hj).fr F (I.bne hj (I.bk w hw).hd) (I.hd j w hj hw c)
theorem mergeBI (hC : ClubG L B R) (T : m0[1]? = some (.tbl tabP lamQ)) (I : BI L B R m0 m P b hh ts) (g : GI L B R U ts n) (hn : n ≤ 20) {w o : Nat} (hw : w < 3) (ho : o < 3) :
    WP (f_Book_merge [.ref (b w), .ref (b o)] m) (fun x m' => BI L B R m0 m' P b hh (put ts w (ts w ++ fr (ts w) (ts o))) ∧ GI L B R U (put ts w (ts w ++ fr (ts w) (ts o))) n) NoE := by
  have lw := g.le hw
  have lo' := g.le ho
  refine (merge_ok hC (I.bk w hw) (I.bk o ho) (g.nd w hw) (g.cl hw ho) (g.oks ho) (by omega) (I.gr.get _ _ T)).mono ?_
  rintro _ m1 ⟨rfl, K, F⟩
  exact ⟨I.upd hw F K, g.merge hw ho⟩
theorem bturn_ok {ns : List Int} (hC : ClubG L B R) (T : m0[1]? = some (.tbl tabP lamQ)) (h0 : seq? m0 0 = some (ns.map .int)) (I : BI L B R m0 m P b hh ts) (g : GI L B R U ts n) (gs : GS U n) (hn : n ≤ 19) {k : Int} (k0 : 0 ≤ k) (k1 : k ≤ 5000) {x5 x6 : Option PV} :
    WS (law_books_l1 [some (.ref 0), some (clubPV L B R), some (.int 4), some (.ref P), some (.int k), x5, x6] m)
      ⟨fun l' m' => ∃ (x5 x6 : Option PV) (ts' : Nat → List Tl) (U' : List Tl), l' = [some (.ref 0), some (clubPV L B R), some (.int 4), some (.ref P), some (.int k), x5, x6] ∧ BI L B R m0 m' P b hh ts' ∧ GI L B R U' ts' (n + 1) ∧ GS U' (n + 1), fun _ _ => False, fun _ _ => False, fun _ _ => False, fun _ _ _ _ => False⟩ := by
  have hs := fun {m : MH} (I : BI L B R m0 m P b hh ts) => seq_fr (I.gr.frk (k := 1)) (by decide) h0
  unfold law_books_l1
  rw [s_seq]
  walk_at "w0"
  refine (cell_ok (hs I) k0).mono ?_
  rintro _ m ⟨rfl, rfl⟩
  generalize ns.getD _ 0 = c
  walk_at "w0"
  rw [s_seq]
  walk_at "w0"
  rw [if_pos ⟨by decide, big_of (by decide)⟩, fdiv_pos (by decide)]
  walk_at "w0"
  rw [if_pos (by decide), fmod_pos (a := c / 7) (b := 3) (by decide)]
  have w1 : 0 ≤ (c / 7) % 3 := Int.emod_nonneg _ (by decide)
  have w2 : (c / 7) % 3 < 3 := Int.emod_lt_of_pos _ (by decide)
  obtain ⟨w, ew⟩ : ∃ w : Nat, (c / 7) % 3 = (w : Int) := ⟨((c / 7) % 3).toNat, by omega⟩
  rw [ew]
  have hw : w < 3 := by omega
  walk_at "w0"
  rw [if_pos (by decide), fmod_pos (a := c) (b := 4) (by decide)]
  walk_at "w0"
  by_cases z : c % 4 = 0
  · rw [if_pos z]
    try simp -dsimp only [ix3 I.pb hw, w_methB, at0, at1, at2, at3, at4, at5, at6, wp_fn, s_nil, s_brk, s_cnt, s_expr, s_ret, s_retN, s_if, s_asn, s_par, s_asg, g_nm, g_nil, g_cons, g_tupT, g_subW, w_v0, w_vS, w_c, w_op, w_un, w_anil, w_acons, w_tup, w_lst, w_call, w_callU, w_isi, w_meth, w_tru, w_bool, w_notS, w_andS, w_orS, w_ifx, w_andV, w_orV, w_notV, w_chain, wp_ok, wp_bad, wp_some, wp_none, wp_liftif, wp_if, asB_b, wp_noex, add_ii, sub_ii, mul_ii, fdiv_ii, mod_ii, pow_ii, neg_i, cmp_ii, lt_ii, le_ii, gt_ii, ge_ii, le_cc, muls_ii, muls_si, ins_cs, iadd_ii, isub_ii, w_onone, w_osome, w_sl, sl_s, sl_t, s_aug, eq_ss, len_s, ix_s, add_ss, str_s, tuple_t, list_t, is_n, not_n, non_n, non_i, non_b, non_s, non_t, non_r, abs_i, max_ii, min_ii, int_i, int_b, gcd_ii, len_t, ix_t, eq_v, ne_v, eq_ii, eq_bb, eq_nn, eq_in, eq_ni, iv_n_list, iv_n_tuple, iv_n_bool, iv_n_str, iv_n_int, okt_n, iv_b_list, iv_b_tuple, iv_b_bool, iv_b_str, iv_b_int, okt_b, iv_i_list, iv_i_tuple, iv_i_bool, iv_i_str, iv_i_int, okt_i, iv_s_list, iv_s_tuple, iv_s_bool, iv_s_str, iv_s_int, okt_s, iv_t_list, iv_t_tuple, iv_t_bool, iv_t_str, iv_t_int, okt_t, iv_r_list, iv_r_tuple, iv_r_bool, iv_r_str, iv_r_int, tru_b, tru_i, tru_n, tru_t, Option.map_some, Option.map_none, List.map_cons, List.map_nil, List.length_cons, List.length_nil, List.set_cons_zero, List.set_cons_succ, List.cons_append, List.nil_append, List.replicate, Nat.reduceAdd, Nat.reduceSub, Nat.reduceLeDiff, true_and, and_true, decide_eq_true_eq, reduceIte, Bool.false_eq_true, Bool.not_true, Bool.not_false, decide_true, decide_false]
    refine ⟨isIns_r (I.bk w hw).ob, ?_⟩
    rw [if_pos ⟨by decide, big_of (by decide)⟩, fdiv_pos (by decide)]
    walk_at "w0"
    rw [if_pos (by decide), fmod_pos (by decide)]
    walk_at "w0"
    rw [if_pos (by decide), fmod_pos (by decide)]
    have o1 : 0 ≤ ((w : Int) + 1 + c / 21 % 2) % 3 := Int.emod_nonneg _ (by decide)
    have o2 : ((w : Int) + 1 + c / 21 % 2) % 3 < 3 := Int.emod_lt_of_pos _ (by decide)
    obtain ⟨o, eo⟩ : ∃ o : Nat, ((w : Int) + 1 + c / 21 % 2) % 3 = (o : Int) := ⟨(((w : Int) + 1 + c / 21 % 2) % 3).toNat, by omega⟩
    rw [eo]
    have ho : o < 3 := by omega
    try simp -dsimp only [ix3 I.pb ho, at0, at1, at2, at3, at4, at5, at6, wp_fn, s_nil, s_brk, s_cnt, s_expr, s_ret, s_retN, s_if, s_asn, s_par, s_asg, g_nm, g_nil, g_cons, g_tupT, g_subW, w_v0, w_vS, w_c, w_op, w_un, w_anil, w_acons, w_tup, w_lst, w_call, w_callU, w_isi, w_meth, w_tru, w_bool, w_notS, w_andS, w_orS, w_ifx, w_andV, w_orV, w_notV, w_chain, wp_ok, wp_bad, wp_some, wp_none, wp_liftif, wp_if, asB_b, wp_noex, add_ii, sub_ii, mul_ii, fdiv_ii, mod_ii, pow_ii, neg_i, cmp_ii, lt_ii, le_ii, gt_ii, ge_ii, le_cc, muls_ii, muls_si, ins_cs, iadd_ii, isub_ii, w_onone, w_osome, w_sl, sl_s, sl_t, s_aug, eq_ss, len_s, ix_s, add_ss, str_s, tuple_t, list_t, is_n, not_n, non_n, non_i, non_b, non_s, non_t, non_r, abs_i, max_ii, min_ii, int_i, int_b, gcd_ii, len_t, ix_t, eq_v, ne_v, eq_ii, eq_bb, eq_nn, eq_in, eq_ni, iv_n_list, iv_n_tuple, iv_n_bool, iv_n_str, iv_n_int, okt_n, iv_b_list, iv_b_tuple, iv_b_bool, iv_b_str, iv_b_int, okt_b, iv_i_list, iv_i_tuple, iv_i_bool, iv_i_str, iv_i_int, okt_i, iv_s_list, iv_s_tuple, iv_s_bool, iv_s_str, iv_s_int, okt_s, iv_t_list, iv_t_tuple, iv_t_bool, iv_t_str, iv_t_int, okt_t, iv_r_list, iv_r_tuple, iv_r_bool, iv_r_str, iv_r_int, tru_b, tru_i, tru_n, tru_t, Option.map_some, Option.map_none, List.map_cons, List.map_nil, List.length_cons, List.length_nil, List.set_cons_zero, List.set_cons_succ, List.cons_append, List.nil_append, List.replicate, Nat.reduceAdd, Nat.reduceSub, Nat.reduceLeDiff, true_and, and_true, decide_eq_true_eq, reduceIte, Bool.false_eq_true, Bool.not_true, Bool.not_false, decide_true, decide_false]
    refine (mergeBI hC T I g (by omega) hw ho).mono ?_
    rintro x m1 ⟨I1, g1⟩
    exact ⟨_, _, _, U, rfl, I1, g1.more, gs.more⟩
  · rw [if_neg z]
    walk_at "w0"
    rw [len_r (hs I), List.length_map]
    walk_at "w0"
    by_cases y : k < (ns.length : Nat)
    · rw [if_pos y]
      try simp -dsimp only [ix3 I.pb hw, w_methB, at0, at1, at2, at3, at4, at5, at6, wp_fn, s_nil, s_brk, s_cnt, s_expr, s_ret, s_retN, s_if, s_asn, s_par, s_asg, g_nm, g_nil, g_cons, g_tupT, g_subW, w_v0, w_vS, w_c, w_op, w_un, w_anil, w_acons, w_tup, w_lst, w_call, w_callU, w_isi, w_meth, w_tru, w_bool, w_notS, w_andS, w_orS, w_ifx, w_andV, w_orV, w_notV, w_chain, wp_ok, wp_bad, wp_some, wp_none, wp_liftif, wp_if, asB_b, wp_noex, add_ii, sub_ii, mul_ii, fdiv_ii, mod_ii, pow_ii, neg_i, cmp_ii, lt_ii, le_ii, gt_ii, ge_ii, le_cc, muls_ii, muls_si, ins_cs, iadd_ii, isub_ii, w_onone, w_osome, w_sl, sl_s, sl_t, s_aug, eq_ss, len_s, ix_s, add_ss, str_s, tuple_t, list_t, is_n, not_n, non_n, non_i, non_b, non_s, non_t, non_r, abs_i, max_ii, min_ii, int_i, int_b, gcd_ii, len_t, ix_t, eq_v, ne_v, eq_ii, eq_bb, eq_nn, eq_in, eq_ni, iv_n_list, iv_n_tuple, iv_n_bool, iv_n_str, iv_n_int, okt_n, iv_b_list, iv_b_tuple, iv_b_bool, iv_b_str, iv_b_int, okt_b, iv_i_list, iv_i_tuple, iv_i_bool, iv_i_str, iv_i_int, okt_i, iv_s_list, iv_s_tuple, iv_s_bool, iv_s_str, iv_s_int, okt_s, iv_t_list, iv_t_tuple, iv_t_bool, iv_t_str, iv_t_int, okt_t, iv_r_list, iv_r_tuple, iv_r_bool, iv_r_str, iv_r_int, tru_b, tru_i, tru_n, tru_t, Option.map_some, Option.map_none, List.map_cons, List.map_nil, List.length_cons, List.length_nil, List.set_cons_zero, List.set_cons_succ, List.cons_append, List.nil_append, List.replicate, Nat.reduceAdd, Nat.reduceSub, Nat.reduceLeDiff, true_and, and_true, decide_eq_true_eq, reduceIte, Bool.false_eq_true, Bool.not_true, Bool.not_false, decide_true, decide_false]
      refine ⟨isIns_r (I.bk w hw).ob, ?_⟩
      refine (entry_ok (c := c) k0 k1 hC).mono ?_
      rintro _ m1 ⟨e, rfl, he, G1⟩
      have I1 := I.grow G1
      walk_at "w0"
      refine (tell_ok hC he (I1.bk w hw) (by have := g.le hw; omega)).mono ?_
      rintro _ m2 ⟨rfl, K, F⟩
      refine ⟨_, _, _, _, rfl, I1.upd hw F K, g.tell hw he, fun t ht => ?_⟩
      rcases List.mem_append.mp ht with h | h
      · exact gs.more t h
      · rw [List.mem_singleton.mp h]
        have b1 : ∀ y ∈ (ts w).map Tl.st, 0 ≤ y ∧ y ≤ (n : Int) := fun y hy => by
          obtain ⟨u, hu, rfl⟩ := List.mem_map.mp hy
          have := gs u (g.sub w hw u hu)
          omega
        have b2 := maxDf_le (k := n) (by omega) fun y hy => (b1 y hy).2
        have b3 := maxDf_nn fun y hy => (b1 y hy).1
        exact ⟨⟨w, hw, rfl⟩, by show 1 ≤ 1 + maxDf ((ts w).map Tl.st) 0; omega, by show 1 + maxDf ((ts w).map Tl.st) 0 ≤ _; omega⟩
    · rw [if_neg y]
      exact ⟨_, _, _, U, rfl, I, g.more, gs.more⟩
end
theorem lawbooks_ok {L : List Loft} {B : List Bird} {R : List Race} {ns : List Int} {m1 : MH} (hC : ClubG L B R) (T1 : m1[1]? = some (.tbl tabP lamQ)) (h1 : seq? m1 0 = some (ns.map .int)) :
    WP (f_law_books [.ref 0, clubPV L B R, .int 4] m1) (fun x m' => ∃ (P : Nat) (b hh : Nat → Nat) (ts : Nat → List Tl) (U : List Tl), x = .ref P ∧ BI L B R m1 m' P b hh ts ∧ GI L B R U ts 14 ∧ GS U 14 ∧ m1.length ≤ P) NoE := by
  unfold f_law_books b_law_books
  walk_at "w1"
  rw [s_seq]
  walk_at "w0"
  refine w_lcR ?_
  walk_at "w0"
  refine ⟨3, rfl, by decide, by decide, fun j acc m' => ∃ b hh : Nat → Nat, acc = (List.range j).map (fun i => PV.ref (b i)) ∧ (∀ i : Nat, i < j → Bk m' (b i) (hh i) ((i : Int) + 1) (clubPV L B R) [] ∧ m1.length < hh i) ∧ (∀ i i' : Nat, i < j → i' < j → i ≠ i' → hh i ≠ hh i') ∧ Gr m1 m', ⟨fun _ => 0, fun _ => 0, rfl, fun i h => absurd h (Nat.not_lt_zero _), fun i i' h => absurd h (Nat.not_lt_zero _), Gr.one⟩, ?_, ?_⟩
  · rintro j acc m' hj ha ⟨b, hh, rfl, hk, hd, G⟩
    have hj : j < 3 := hj
    have hlt := (List.getElem?_eq_some_iff.mp ha).1
    simp only [wipeP]
    try simp -dsimp only [w_yes, at0, at1, at2, at3, at4, at5, at6, wp_fn, s_nil, s_brk, s_cnt, s_expr, s_ret, s_retN, s_if, s_asn, s_par, s_asg, g_nm, g_nil, g_cons, g_tupT, g_subW, w_v0, w_vS, w_c, w_op, w_un, w_anil, w_acons, w_tup, w_lst, w_call, w_callU, w_isi, w_meth, w_tru, w_bool, w_notS, w_andS, w_orS, w_ifx, w_andV, w_orV, w_notV, w_chain, wp_ok, wp_bad, wp_some, wp_none, wp_liftif, wp_if, asB_b, wp_noex, add_ii, sub_ii, mul_ii, fdiv_ii, mod_ii, pow_ii, neg_i, cmp_ii, lt_ii, le_ii, gt_ii, ge_ii, le_cc, muls_ii, muls_si, ins_cs, iadd_ii, isub_ii, w_onone, w_osome, w_sl, sl_s, sl_t, s_aug, eq_ss, len_s, ix_s, add_ss, str_s, tuple_t, list_t, is_n, not_n, non_n, non_i, non_b, non_s, non_t, non_r, abs_i, max_ii, min_ii, int_i, int_b, gcd_ii, len_t, ix_t, eq_v, ne_v, eq_ii, eq_bb, eq_nn, eq_in, eq_ni, iv_n_list, iv_n_tuple, iv_n_bool, iv_n_str, iv_n_int, okt_n, iv_b_list, iv_b_tuple, iv_b_bool, iv_b_str, iv_b_int, okt_b, iv_i_list, iv_i_tuple, iv_i_bool, iv_i_str, iv_i_int, okt_i, iv_s_list, iv_s_tuple, iv_s_bool, iv_s_str, iv_s_int, okt_s, iv_t_list, iv_t_tuple, iv_t_bool, iv_t_str, iv_t_int, okt_t, iv_r_list, iv_r_tuple, iv_r_bool, iv_r_str, iv_r_int, tru_b, tru_i, tru_n, tru_t, Option.map_some, Option.map_none, List.map_cons, List.map_nil, List.length_cons, List.length_nil, List.set_cons_zero, List.set_cons_succ, List.cons_append, List.nil_append, List.replicate, Nat.reduceAdd, Nat.reduceSub, Nat.reduceLeDiff, true_and, and_true, decide_eq_true_eq, reduceIte, Bool.false_eq_true, Bool.not_true, Bool.not_false, decide_true, decide_false]
    refine w_make ?_
    walk_at "w0"
    refine (init_ok (b := m'.length) (i := 1 + (j : Int)) (c := clubPV L B R) get_new (by omega) (by omega)).mono ?_
    rintro _ m2 ⟨rfl, K, hl2, F2⟩
    have lp : (m' ++ [MO.ins []]).length = m'.length + 1 := by simp
    rw [lp] at K hl2
    have ha2 := F2.2 _ _ (show m1.length ≠ m'.length by omega) (get_old ha)
    have S : FrK m1.length m2 (m2.set m1.length (.lst ((List.range j).map (fun i => PV.ref (b i)) ++ [.ref m'.length]))) := FrK.set
    have eK : (1 : Int) + (j : Int) = (j : Int) + 1 := by omega
    rw [eK] at K
    refine ⟨rfl, ha2, by simp; omega, fun i => if i = j then m'.length else b i, fun i => if i = j then m'.length + 1 else hh i, ?_, fun i hi => ?_, fun i i' hi hi' hne => ?_, ?_⟩
    · rw [List.range_succ, List.map_append]
      congr 1
      · refine List.map_congr_left fun i hi => ?_
        have := List.mem_range.mp hi
        dsimp only
        rw [if_neg (by omega)]
      · simp
    · dsimp only
      by_cases c : i = j
      · subst c
        rw [if_pos rfl, if_pos rfl]
        exact ⟨K.fr S (by omega) (by omega), by omega⟩
      · rw [if_neg c, if_neg c]
        obtain ⟨k1, k2⟩ := hk i (by omega)
        have b1 := (List.getElem?_eq_some_iff.mp k1.ob).1
        have b2 := (List.getElem?_eq_some_iff.mp k1.hd).1
        have b3 : b i ≠ m1.length := fun z => by
          have := k1.ob
          rw [z, ha] at this
          cases this
        exact ⟨((k1.gr Gr.one).fr F2 (by omega) (by omega)).fr S b3 (by omega), k2⟩
    · have hb : ∀ i, i < j → hh i < m'.length := fun i hi => (List.getElem?_eq_some_iff.mp (hk i hi).1.hd).1
      show (if i = j then m'.length + 1 else hh i) ≠ (if i' = j then m'.length + 1 else hh i')
      by_cases c : i = j
      · rw [if_pos c, if_neg (by omega)]
        have := hb i' (by omega)
        omega
      · rw [if_neg c]
        by_cases c' : i' = j
        · rw [if_pos c']
          have := hb i (by omega)
          omega
        · rw [if_neg c']
          exact hd i i' (by omega) (by omega) hne
    · refine Gr.set ?_ (Nat.le_refl _)
      refine ⟨by have := G.len; omega, fun n u e => ?_⟩
      have hn := (List.getElem?_eq_some_iff.mp e).1
      exact F2.2 _ _ (by have := G.len; omega) (get_old (G.get _ _ e))
  rintro acc m2 ha ⟨b, hh, rfl, hk, hd, G2⟩
  have hk : ∀ i : Nat, i < 3 → Bk m2 (b i) (hh i) ((i : Int) + 1) (clubPV L B R) [] ∧ m1.length < hh i := hk
  have hd : ∀ i i' : Nat, i < 3 → i' < 3 → i ≠ i' → hh i ≠ hh i' := hd
  have ha : m2[m1.length]? = some (.lst [.ref (b 0), .ref (b 1), .ref (b 2)]) := ha
  have I : BI L B R m1 m2 m1.length b hh (fun _ => []) := ⟨G2, ha, fun j hj => (hk j hj).1, fun j hj => by have := (hk j hj).2; omega, fun j hj => by have := (hk j hj).2; omega, hd⟩
  have g : GI L B R [] (fun _ => []) 0 := GI.init
  have gs : GS [] 0 := fun t h => by cases h
  walk_at "w0"
  rw [s_seq]
  refine s_for2W ?_
  walk_at "w0"
  refine ⟨4, 18, rfl, rfl, ⟨by decide, by decide, by decide, by decide⟩, fun j l m' => ∃ (x4 x5 x6 : Option PV) (ts' : Nat → List Tl) (U' : List Tl), l = [some (.ref 0), some (clubPV L B R), some (.int 4), some (.ref m1.length), x4, x5, x6] ∧ BI L B R m1 m' m1.length b hh ts' ∧ GI L B R U' ts' j ∧ GS U' j, ⟨_, _, _, _, _, rfl, I, g, gs⟩, ?_, ?_⟩
  · clear I g gs
    rintro j l m' hj ⟨x4, x5, x6, ts', U', rfl, I, g, gs⟩
    have hj : j < 14 := hj
    refine (bturn_ok hC T1 h1 I g gs (by omega) (k := 4 + (j : Nat)) (by omega) (by omega)).mono ?_ (fun _ _ h => h.elim) (fun _ _ h => h.elim) (fun _ _ h => h.elim) (fun _ _ _ _ h => h.elim)
    rintro l' m4 ⟨y5, y6, ts2, U2, rfl, I2, g2, gs2⟩
    exact ⟨_, _, _, ts2, U2, rfl, I2, g2, gs2⟩
  · clear I g gs
    rintro l m' ⟨x4, x5, x6, ts', U', rfl, I, g, gs⟩
    walk_at "w0"
    exact ⟨_, b, hh, ts', U', rfl, I, g, gs, Nat.le_refl _⟩
theorem s_tryFF {cn1 cn2 : String} {i : Nat} {sb : SS} {l : SM.Loc} {m : MH} {D : ED} (h : WS (sb l m) { D with ex := fun c fs l' m' => ∃ y, fs = [y] ∧ (c = cn1 ∨ c = cn2) ∧ i < l'.length ∧ D.rt y m' }) : WS (xTryFF cn1 cn2 i sb l m) D := by
  unfold xTryFF
  unfold WS at h ⊢
  cases hs : sb l m with
  | nx l' m' => rw [hs] at h; exact h
  | rt y m' => rw [hs] at h; exact h
  | bk l' m' => rw [hs] at h; exact h
  | ct l' m' => rw [hs] at h; exact h
  | bad => rw [hs] at h; exact h
  | ex c fs l' m' =>
    rw [hs] at h
    obtain ⟨y, rfl, hc, hi, hq⟩ := h
    dsimp only
    rw [if_pos ⟨hc, hi⟩]
    exact hq
theorem s_tryCF {cn1 cn2 : String} {t : List Nat} {i : Nat} {sb : SS} {l : SM.Loc} {m : MH} {D : ED} (h : WS (sb l m) { D with ex := fun c fs l' m' => i < l'.length ∧ ((fs = [] ∧ c = cn1 ∧ D.rt (.str t) m') ∨ ∃ y, fs = [y] ∧ c = cn2 ∧ D.rt y m') }) : WS (xTryCF cn1 t cn2 i sb l m) D := by
  unfold xTryCF
  unfold WS at h ⊢
  cases hs : sb l m with
  | nx l' m' => rw [hs] at h; exact h
  | rt y m' => rw [hs] at h; exact h
  | bk l' m' => rw [hs] at h; exact h
  | ct l' m' => rw [hs] at h; exact h
  | bad => rw [hs] at h; exact h
  | ex c fs l' m' =>
    rw [hs] at h
    obtain ⟨hi, ⟨rfl, hc, hq⟩ | ⟨y, rfl, hc, hq⟩⟩ := h
    · dsimp only
      rw [if_pos ⟨hc, hi⟩]
      exact hq
    · dsimp only
      rw [if_pos ⟨hc, hi⟩]
      exact hq
theorem s_raise0 {cn : String} {l : SM.Loc} {m : MH} {D : ED} : WS (xRaise0 cn l m) D = D.ex cn [] l m := by
  unfold xRaise0; with_unfolding_all rfl
theorem w_methX {n : Nat} {f : FS} {so : SE} {sa : SA} {l : SM.Loc} {m : MH} {Q : PV → MH → Prop} {E : EX} : WP (sMethX n f so sa l m) Q E = WP (so l m) (fun x m1 => isIns m1 x = true ∧ WP (sa l m1) (fun xs m2 => xs.length + 1 = n ∧ WP (f (x :: xs) m2) Q E) E) E := by
  unfold sMethX; rw [wp_bind]; refine wp_eq fun x m1 => ?_
  by_cases h : isIns m1 x = true
  · rw [if_pos h, wp_bind]
    simp only [h, true_and]
    refine wp_eq fun xs m2 => ?_
    by_cases h2 : xs.length + 1 = n
    · rw [if_pos h2]; simp [h2]
    · rw [if_neg h2]; simp [h2, wp_bad]
  · rw [if_neg h]; simp [h, wp_bad]
theorem w_makeX {n : Nat} {f : FS} {sa : SA} {l : SM.Loc} {m : MH} {Q : PV → MH → Prop} {E : EX} (h : WP (sa l m) (fun xs m1 => xs.length + 1 = n ∧ WP (f (.ref m1.length :: xs) (m1 ++ [.ins []])) (fun y m2 => y = .non ∧ Q (.ref m1.length) m2) E) E) : WP (sMakeX n f sa l m) Q E := by
  unfold sMakeX; rw [wp_bind]
  refine h.mono ?_
  rintro xs m1 ⟨h2, h3⟩
  rw [if_pos h2, wp_bind]
  refine h3.mono ?_
  rintro y m2 ⟨rfl, q⟩
  rw [wp_ok]
  exact q
section
variable {m : MH} {b h : Nat} {i : Int} {ts : List Tl} {L : List Loft} {B : List Bird} {R : List Race} {c : PV}
theorem tell_bad {x : PV} {kd : List Nat} {r : List PV} (hx : x = .tup (.str kd :: r)) (k : Bk m b h i c ts) (hr : ∀ m, WP (f_is_right [c, x] m) (fun y m' => y = .bl false ∧ Ap m m') NoE) :
    WP (f_Book_tell [.ref b, x] m) (fun _ _ => False) (fun cc fs m' => cc = "BadEvent" ∧ fs = [.str kd] ∧ Gr m m') := by
  unfold f_Book_tell b_Book_tell
  walk_at "w1"
  rw [s_seq]
  try simp -dsimp only [w_fld, fld_r k.ob (i := 1) rfl, at0, at1, at2, at3, at4, at5, at6, wp_fn, s_nil, s_brk, s_cnt, s_expr, s_ret, s_retN, s_if, s_asn, s_par, s_asg, g_nm, g_nil, g_cons, g_tupT, g_subW, w_v0, w_vS, w_c, w_op, w_un, w_anil, w_acons, w_tup, w_lst, w_call, w_callU, w_isi, w_meth, w_tru, w_bool, w_notS, w_andS, w_orS, w_ifx, w_andV, w_orV, w_notV, w_chain, wp_ok, wp_bad, wp_some, wp_none, wp_liftif, wp_if, asB_b, wp_noex, add_ii, sub_ii, mul_ii, fdiv_ii, mod_ii, pow_ii, neg_i, cmp_ii, lt_ii, le_ii, gt_ii, ge_ii, le_cc, muls_ii, muls_si, ins_cs, iadd_ii, isub_ii, w_onone, w_osome, w_sl, sl_s, sl_t, s_aug, eq_ss, len_s, ix_s, add_ss, str_s, tuple_t, list_t, is_n, not_n, non_n, non_i, non_b, non_s, non_t, non_r, abs_i, max_ii, min_ii, int_i, int_b, gcd_ii, len_t, ix_t, eq_v, ne_v, eq_ii, eq_bb, eq_nn, eq_in, eq_ni, iv_n_list, iv_n_tuple, iv_n_bool, iv_n_str, iv_n_int, okt_n, iv_b_list, iv_b_tuple, iv_b_bool, iv_b_str, iv_b_int, okt_b, iv_i_list, iv_i_tuple, iv_i_bool, iv_i_str, iv_i_int, okt_i, iv_s_list, iv_s_tuple, iv_s_bool, iv_s_str, iv_s_int, okt_s, iv_t_list, iv_t_tuple, iv_t_bool, iv_t_str, iv_t_int, okt_t, iv_r_list, iv_r_tuple, iv_r_bool, iv_r_str, iv_r_int, tru_b, tru_i, tru_n, tru_t, Option.map_some, Option.map_none, List.map_cons, List.map_nil, List.length_cons, List.length_nil, List.set_cons_zero, List.set_cons_succ, List.cons_append, List.nil_append, List.replicate, Nat.reduceAdd, Nat.reduceSub, Nat.reduceLeDiff, true_and, and_true, decide_eq_true_eq, reduceIte, Bool.false_eq_true, Bool.not_true, Bool.not_false, decide_true, decide_false]
  refine (hr m).mono ?_
  rintro _ m1 ⟨rfl, A1⟩
  subst hx
  walk_at "w0"
  rw [s_raise]
  walk_at "w0"
  exact A1.gr
theorem tell_full {x : PV} (k : Bk m b h i c ts) (hl : ts.length = 80) (hr : ∀ m, WP (f_is_right [c, x] m) (fun y m' => y = .bl true ∧ Ap m m') NoE) :
    WP (f_Book_tell [.ref b, x] m) (fun _ _ => False) (fun cc fs m' => cc = "TooMany" ∧ fs = [.int 80] ∧ Gr m m') := by
  unfold f_Book_tell b_Book_tell
  walk_at "w1"
  rw [s_seq]
  try simp -dsimp only [w_fld, fld_r k.ob (i := 1) rfl, at0, at1, at2, at3, at4, at5, at6, wp_fn, s_nil, s_brk, s_cnt, s_expr, s_ret, s_retN, s_if, s_asn, s_par, s_asg, g_nm, g_nil, g_cons, g_tupT, g_subW, w_v0, w_vS, w_c, w_op, w_un, w_anil, w_acons, w_tup, w_lst, w_call, w_callU, w_isi, w_meth, w_tru, w_bool, w_notS, w_andS, w_orS, w_ifx, w_andV, w_orV, w_notV, w_chain, wp_ok, wp_bad, wp_some, wp_none, wp_liftif, wp_if, asB_b, wp_noex, add_ii, sub_ii, mul_ii, fdiv_ii, mod_ii, pow_ii, neg_i, cmp_ii, lt_ii, le_ii, gt_ii, ge_ii, le_cc, muls_ii, muls_si, ins_cs, iadd_ii, isub_ii, w_onone, w_osome, w_sl, sl_s, sl_t, s_aug, eq_ss, len_s, ix_s, add_ss, str_s, tuple_t, list_t, is_n, not_n, non_n, non_i, non_b, non_s, non_t, non_r, abs_i, max_ii, min_ii, int_i, int_b, gcd_ii, len_t, ix_t, eq_v, ne_v, eq_ii, eq_bb, eq_nn, eq_in, eq_ni, iv_n_list, iv_n_tuple, iv_n_bool, iv_n_str, iv_n_int, okt_n, iv_b_list, iv_b_tuple, iv_b_bool, iv_b_str, iv_b_int, okt_b, iv_i_list, iv_i_tuple, iv_i_bool, iv_i_str, iv_i_int, okt_i, iv_s_list, iv_s_tuple, iv_s_bool, iv_s_str, iv_s_int, okt_s, iv_t_list, iv_t_tuple, iv_t_bool, iv_t_str, iv_t_int, okt_t, iv_r_list, iv_r_tuple, iv_r_bool, iv_r_str, iv_r_int, tru_b, tru_i, tru_n, tru_t, Option.map_some, Option.map_none, List.map_cons, List.map_nil, List.length_cons, List.length_nil, List.set_cons_zero, List.set_cons_succ, List.cons_append, List.nil_append, List.replicate, Nat.reduceAdd, Nat.reduceSub, Nat.reduceLeDiff, true_and, and_true, decide_eq_true_eq, reduceIte, Bool.false_eq_true, Bool.not_true, Bool.not_false, decide_true, decide_false]
  refine (hr m).mono ?_
  rintro _ m1 ⟨rfl, A1⟩
  have k1 := k.gr A1.gr
  walk_at "w0"
  rw [s_seq]
  try simp -dsimp only [w_fld, fld_r k1.ob (i := 2) rfl, at0, at1, at2, at3, at4, at5, at6, wp_fn, s_nil, s_brk, s_cnt, s_expr, s_ret, s_retN, s_if, s_asn, s_par, s_asg, g_nm, g_nil, g_cons, g_tupT, g_subW, w_v0, w_vS, w_c, w_op, w_un, w_anil, w_acons, w_tup, w_lst, w_call, w_callU, w_isi, w_meth, w_tru, w_bool, w_notS, w_andS, w_orS, w_ifx, w_andV, w_orV, w_notV, w_chain, wp_ok, wp_bad, wp_some, wp_none, wp_liftif, wp_if, asB_b, wp_noex, add_ii, sub_ii, mul_ii, fdiv_ii, mod_ii, pow_ii, neg_i, cmp_ii, lt_ii, le_ii, gt_ii, ge_ii, le_cc, muls_ii, muls_si, ins_cs, iadd_ii, isub_ii, w_onone, w_osome, w_sl, sl_s, sl_t, s_aug, eq_ss, len_s, ix_s, add_ss, str_s, tuple_t, list_t, is_n, not_n, non_n, non_i, non_b, non_s, non_t, non_r, abs_i, max_ii, min_ii, int_i, int_b, gcd_ii, len_t, ix_t, eq_v, ne_v, eq_ii, eq_bb, eq_nn, eq_in, eq_ni, iv_n_list, iv_n_tuple, iv_n_bool, iv_n_str, iv_n_int, okt_n, iv_b_list, iv_b_tuple, iv_b_bool, iv_b_str, iv_b_int, okt_b, iv_i_list, iv_i_tuple, iv_i_bool, iv_i_str, iv_i_int, okt_i, iv_s_list, iv_s_tuple, iv_s_bool, iv_s_str, iv_s_int, okt_s, iv_t_list, iv_t_tuple, iv_t_bool, iv_t_str, iv_t_int, okt_t, iv_r_list, iv_r_tuple, iv_r_bool, iv_r_str, iv_r_int, tru_b, tru_i, tru_n, tru_t, Option.map_some, Option.map_none, List.map_cons, List.map_nil, List.length_cons, List.length_nil, List.set_cons_zero, List.set_cons_succ, List.cons_append, List.nil_append, List.replicate, Nat.reduceAdd, Nat.reduceSub, Nat.reduceLeDiff, true_and, and_true, decide_eq_true_eq, reduceIte, Bool.false_eq_true, Bool.not_true, Bool.not_false, decide_true, decide_false]
  rw [len_r (seq_of_lst k1.hd), List.length_map]
  walk_at "w0"
  rw [if_pos (by omega)]
  walk_at "w0"
  rw [s_raise]
  walk_at "w0"
  exact A1.gr
theorem tell_gen {e : En} (k : Bk m b h i c ts) (hl : ts.length < 80) (hr : ∀ m, WP (f_is_right [c, e.pv] m) (fun y m' => y = .bl true ∧ Ap m m') NoE) {E : EX} :
    WP (f_Book_tell [.ref b, e.pv] m) (fun x m' => Bk m' b h i c (ts ++ [Tl.mk (1 + maxDf (ts.map Tl.st) 0) i e]) ∧ FrK h m m') E := by
  have hbh := k.ne
  unfold f_Book_tell b_Book_tell
  walk_at "w1"
  rw [s_seq]
  try simp -dsimp only [w_fld, fld_r k.ob (i := 1) rfl, at0, at1, at2, at3, at4, at5, at6, wp_fn, s_nil, s_brk, s_cnt, s_expr, s_ret, s_retN, s_if, s_asn, s_par, s_asg, g_nm, g_nil, g_cons, g_tupT, g_subW, w_v0, w_vS, w_c, w_op, w_un, w_anil, w_acons, w_tup, w_lst, w_call, w_callU, w_isi, w_meth, w_tru, w_bool, w_notS, w_andS, w_orS, w_ifx, w_andV, w_orV, w_notV, w_chain, wp_ok, wp_bad, wp_some, wp_none, wp_liftif, wp_if, asB_b, wp_noex, add_ii, sub_ii, mul_ii, fdiv_ii, mod_ii, pow_ii, neg_i, cmp_ii, lt_ii, le_ii, gt_ii, ge_ii, le_cc, muls_ii, muls_si, ins_cs, iadd_ii, isub_ii, w_onone, w_osome, w_sl, sl_s, sl_t, s_aug, eq_ss, len_s, ix_s, add_ss, str_s, tuple_t, list_t, is_n, not_n, non_n, non_i, non_b, non_s, non_t, non_r, abs_i, max_ii, min_ii, int_i, int_b, gcd_ii, len_t, ix_t, eq_v, ne_v, eq_ii, eq_bb, eq_nn, eq_in, eq_ni, iv_n_list, iv_n_tuple, iv_n_bool, iv_n_str, iv_n_int, okt_n, iv_b_list, iv_b_tuple, iv_b_bool, iv_b_str, iv_b_int, okt_b, iv_i_list, iv_i_tuple, iv_i_bool, iv_i_str, iv_i_int, okt_i, iv_s_list, iv_s_tuple, iv_s_bool, iv_s_str, iv_s_int, okt_s, iv_t_list, iv_t_tuple, iv_t_bool, iv_t_str, iv_t_int, okt_t, iv_r_list, iv_r_tuple, iv_r_bool, iv_r_str, iv_r_int, tru_b, tru_i, tru_n, tru_t, Option.map_some, Option.map_none, List.map_cons, List.map_nil, List.length_cons, List.length_nil, List.set_cons_zero, List.set_cons_succ, List.cons_append, List.nil_append, List.replicate, Nat.reduceAdd, Nat.reduceSub, Nat.reduceLeDiff, true_and, and_true, decide_eq_true_eq, reduceIte, Bool.false_eq_true, Bool.not_true, Bool.not_false, decide_true, decide_false]
  refine (hr m).mono ?_
  rintro _ m1 ⟨rfl, A1⟩
  have k1 := k.gr A1.gr
  have F1 := A1.gr.frk (k := h)
  clear A1
  walk_at "w0"
  rw [s_seq]
  try simp -dsimp only [w_fld, fld_r k1.ob (i := 2) rfl, at0, at1, at2, at3, at4, at5, at6, wp_fn, s_nil, s_brk, s_cnt, s_expr, s_ret, s_retN, s_if, s_asn, s_par, s_asg, g_nm, g_nil, g_cons, g_tupT, g_subW, w_v0, w_vS, w_c, w_op, w_un, w_anil, w_acons, w_tup, w_lst, w_call, w_callU, w_isi, w_meth, w_tru, w_bool, w_notS, w_andS, w_orS, w_ifx, w_andV, w_orV, w_notV, w_chain, wp_ok, wp_bad, wp_some, wp_none, wp_liftif, wp_if, asB_b, wp_noex, add_ii, sub_ii, mul_ii, fdiv_ii, mod_ii, pow_ii, neg_i, cmp_ii, lt_ii, le_ii, gt_ii, ge_ii, le_cc, muls_ii, muls_si, ins_cs, iadd_ii, isub_ii, w_onone, w_osome, w_sl, sl_s, sl_t, s_aug, eq_ss, len_s, ix_s, add_ss, str_s, tuple_t, list_t, is_n, not_n, non_n, non_i, non_b, non_s, non_t, non_r, abs_i, max_ii, min_ii, int_i, int_b, gcd_ii, len_t, ix_t, eq_v, ne_v, eq_ii, eq_bb, eq_nn, eq_in, eq_ni, iv_n_list, iv_n_tuple, iv_n_bool, iv_n_str, iv_n_int, okt_n, iv_b_list, iv_b_tuple, iv_b_bool, iv_b_str, iv_b_int, okt_b, iv_i_list, iv_i_tuple, iv_i_bool, iv_i_str, iv_i_int, okt_i, iv_s_list, iv_s_tuple, iv_s_bool, iv_s_str, iv_s_int, okt_s, iv_t_list, iv_t_tuple, iv_t_bool, iv_t_str, iv_t_int, okt_t, iv_r_list, iv_r_tuple, iv_r_bool, iv_r_str, iv_r_int, tru_b, tru_i, tru_n, tru_t, Option.map_some, Option.map_none, List.map_cons, List.map_nil, List.length_cons, List.length_nil, List.set_cons_zero, List.set_cons_succ, List.cons_append, List.nil_append, List.replicate, Nat.reduceAdd, Nat.reduceSub, Nat.reduceLeDiff, true_and, and_true, decide_eq_true_eq, reduceIte, Bool.false_eq_true, Bool.not_true, Bool.not_false, decide_true, decide_false]
  rw [len_r (seq_of_lst k1.hd), List.length_map]
  walk_at "w0"
  rw [if_neg (by omega)]
  walk_at "w0"
  rw [s_seq]
  walk_at "w0"
  refine w_maxD ?_
  walk_at "w0"
  refine lc_mapL (f := Tl.pv) (g := fun t => .int t.st) (by simp) ?_
  try simp -dsimp only [w_fld, fld_r k1.ob (i := 2) rfl, at0, at1, at2, at3, at4, at5, at6, wp_fn, s_nil, s_brk, s_cnt, s_expr, s_ret, s_retN, s_if, s_asn, s_par, s_asg, g_nm, g_nil, g_cons, g_tupT, g_subW, w_v0, w_vS, w_c, w_op, w_un, w_anil, w_acons, w_tup, w_lst, w_call, w_callU, w_isi, w_meth, w_tru, w_bool, w_notS, w_andS, w_orS, w_ifx, w_andV, w_orV, w_notV, w_chain, wp_ok, wp_bad, wp_some, wp_none, wp_liftif, wp_if, asB_b, wp_noex, add_ii, sub_ii, mul_ii, fdiv_ii, mod_ii, pow_ii, neg_i, cmp_ii, lt_ii, le_ii, gt_ii, ge_ii, le_cc, muls_ii, muls_si, ins_cs, iadd_ii, isub_ii, w_onone, w_osome, w_sl, sl_s, sl_t, s_aug, eq_ss, len_s, ix_s, add_ss, str_s, tuple_t, list_t, is_n, not_n, non_n, non_i, non_b, non_s, non_t, non_r, abs_i, max_ii, min_ii, int_i, int_b, gcd_ii, len_t, ix_t, eq_v, ne_v, eq_ii, eq_bb, eq_nn, eq_in, eq_ni, iv_n_list, iv_n_tuple, iv_n_bool, iv_n_str, iv_n_int, okt_n, iv_b_list, iv_b_tuple, iv_b_bool, iv_b_str, iv_b_int, okt_b, iv_i_list, iv_i_tuple, iv_i_bool, iv_i_str, iv_i_int, okt_i, iv_s_list, iv_s_tuple, iv_s_bool, iv_s_str, iv_s_int, okt_s, iv_t_list, iv_t_tuple, iv_t_bool, iv_t_str, iv_t_int, okt_t, iv_r_list, iv_r_tuple, iv_r_bool, iv_r_str, iv_r_int, tru_b, tru_i, tru_n, tru_t, Option.map_some, Option.map_none, List.map_cons, List.map_nil, List.length_cons, List.length_nil, List.set_cons_zero, List.set_cons_succ, List.cons_append, List.nil_append, List.replicate, Nat.reduceAdd, Nat.reduceSub, Nat.reduceLeDiff, true_and, and_true, decide_eq_true_eq, reduceIte, Bool.false_eq_true, Bool.not_true, Bool.not_false, decide_true, decide_false]
  refine ⟨h, ts, rfl, k1.hd, by omega, fun t ht m2 => ?_, fun m2 G2 P2 => ?_⟩
  · unfold Tl.pv
    walk_at "w0"
  rw [map_st] at P2
  have k2 := k1.gr G2
  have F2 := F1.trans (G2.frk (k := h))
  walk_at "w0"
  refine ⟨m1.length, _, 0, rfl, rfl, seq_of_lst P2, ?_⟩
  walk_at "w0"
  rw [s_seq]
  try simp -dsimp only [w_fld, fld_r k2.ob (i := 0) rfl, at0, at1, at2, at3, at4, at5, at6, wp_fn, s_nil, s_brk, s_cnt, s_expr, s_ret, s_retN, s_if, s_asn, s_par, s_asg, g_nm, g_nil, g_cons, g_tupT, g_subW, w_v0, w_vS, w_c, w_op, w_un, w_anil, w_acons, w_tup, w_lst, w_call, w_callU, w_isi, w_meth, w_tru, w_bool, w_notS, w_andS, w_orS, w_ifx, w_andV, w_orV, w_notV, w_chain, wp_ok, wp_bad, wp_some, wp_none, wp_liftif, wp_if, asB_b, wp_noex, add_ii, sub_ii, mul_ii, fdiv_ii, mod_ii, pow_ii, neg_i, cmp_ii, lt_ii, le_ii, gt_ii, ge_ii, le_cc, muls_ii, muls_si, ins_cs, iadd_ii, isub_ii, w_onone, w_osome, w_sl, sl_s, sl_t, s_aug, eq_ss, len_s, ix_s, add_ss, str_s, tuple_t, list_t, is_n, not_n, non_n, non_i, non_b, non_s, non_t, non_r, abs_i, max_ii, min_ii, int_i, int_b, gcd_ii, len_t, ix_t, eq_v, ne_v, eq_ii, eq_bb, eq_nn, eq_in, eq_ni, iv_n_list, iv_n_tuple, iv_n_bool, iv_n_str, iv_n_int, okt_n, iv_b_list, iv_b_tuple, iv_b_bool, iv_b_str, iv_b_int, okt_b, iv_i_list, iv_i_tuple, iv_i_bool, iv_i_str, iv_i_int, okt_i, iv_s_list, iv_s_tuple, iv_s_bool, iv_s_str, iv_s_int, okt_s, iv_t_list, iv_t_tuple, iv_t_bool, iv_t_str, iv_t_int, okt_t, iv_r_list, iv_r_tuple, iv_r_bool, iv_r_str, iv_r_int, tru_b, tru_i, tru_n, tru_t, Option.map_some, Option.map_none, List.map_cons, List.map_nil, List.length_cons, List.length_nil, List.set_cons_zero, List.set_cons_succ, List.cons_append, List.nil_append, List.replicate, Nat.reduceAdd, Nat.reduceSub, Nat.reduceLeDiff, true_and, and_true, decide_eq_true_eq, reduceIte, Bool.false_eq_true, Bool.not_true, Bool.not_false, decide_true, decide_false]
  rw [s_seq]
  try simp -dsimp only [w_fld, fld_r k2.ob (i := 2) rfl, at0, at1, at2, at3, at4, at5, at6, wp_fn, s_nil, s_brk, s_cnt, s_expr, s_ret, s_retN, s_if, s_asn, s_par, s_asg, g_nm, g_nil, g_cons, g_tupT, g_subW, w_v0, w_vS, w_c, w_op, w_un, w_anil, w_acons, w_tup, w_lst, w_call, w_callU, w_isi, w_meth, w_tru, w_bool, w_notS, w_andS, w_orS, w_ifx, w_andV, w_orV, w_notV, w_chain, wp_ok, wp_bad, wp_some, wp_none, wp_liftif, wp_if, asB_b, wp_noex, add_ii, sub_ii, mul_ii, fdiv_ii, mod_ii, pow_ii, neg_i, cmp_ii, lt_ii, le_ii, gt_ii, ge_ii, le_cc, muls_ii, muls_si, ins_cs, iadd_ii, isub_ii, w_onone, w_osome, w_sl, sl_s, sl_t, s_aug, eq_ss, len_s, ix_s, add_ss, str_s, tuple_t, list_t, is_n, not_n, non_n, non_i, non_b, non_s, non_t, non_r, abs_i, max_ii, min_ii, int_i, int_b, gcd_ii, len_t, ix_t, eq_v, ne_v, eq_ii, eq_bb, eq_nn, eq_in, eq_ni, iv_n_list, iv_n_tuple, iv_n_bool, iv_n_str, iv_n_int, okt_n, iv_b_list, iv_b_tuple, iv_b_bool, iv_b_str, iv_b_int, okt_b, iv_i_list, iv_i_tuple, iv_i_bool, iv_i_str, iv_i_int, okt_i, iv_s_list, iv_s_tuple, iv_s_bool, iv_s_str, iv_s_int, okt_s, iv_t_list, iv_t_tuple, iv_t_bool, iv_t_str, iv_t_int, okt_t, iv_r_list, iv_r_tuple, iv_r_bool, iv_r_str, iv_r_int, tru_b, tru_i, tru_n, tru_t, Option.map_some, Option.map_none, List.map_cons, List.map_nil, List.length_cons, List.length_nil, List.set_cons_zero, List.set_cons_succ, List.cons_append, List.nil_append, List.replicate, Nat.reduceAdd, Nat.reduceSub, Nat.reduceLeDiff, true_and, and_true, decide_eq_true_eq, reduceIte, Bool.false_eq_true, Bool.not_true, Bool.not_false, decide_true, decide_false]
  refine ⟨isLst_r k2.hd, ?_⟩
  rw [append_r k2.hd (by rw [List.length_map]; omega)]
  walk_at "w0"
  refine ⟨⟨?_, ?_⟩, F2.trans FrK.set⟩
  · rw [List.getElem?_set_ne (by omega)]; exact k2.ob
  · rw [getD_set_eq k2.hd, List.map_append]; rfl
theorem told_bad {x : PV} {kd : List Nat} {r : List PV} (hx : x = .tup (.str kd :: r)) (k : Bk m b h i c ts) (hr : ∀ m, WP (f_is_right [c, x] m) (fun y m' => y = .bl false ∧ Ap m m') NoE) :
    WP (f_law_told [.ref b, x] m) (fun y m' => y = .str kd ∧ Gr m m') NoE := by
  unfold f_law_told b_law_told
  walk_at "w1"
  rw [s_seq]
  refine s_tryFF ?_
  try simp -dsimp only [w_methX, at0, at1, at2, at3, at4, at5, at6, wp_fn, s_nil, s_brk, s_cnt, s_expr, s_ret, s_retN, s_if, s_asn, s_par, s_asg, g_nm, g_nil, g_cons, g_tupT, g_subW, w_v0, w_vS, w_c, w_op, w_un, w_anil, w_acons, w_tup, w_lst, w_call, w_callU, w_isi, w_meth, w_tru, w_bool, w_notS, w_andS, w_orS, w_ifx, w_andV, w_orV, w_notV, w_chain, wp_ok, wp_bad, wp_some, wp_none, wp_liftif, wp_if, asB_b, wp_noex, add_ii, sub_ii, mul_ii, fdiv_ii, mod_ii, pow_ii, neg_i, cmp_ii, lt_ii, le_ii, gt_ii, ge_ii, le_cc, muls_ii, muls_si, ins_cs, iadd_ii, isub_ii, w_onone, w_osome, w_sl, sl_s, sl_t, s_aug, eq_ss, len_s, ix_s, add_ss, str_s, tuple_t, list_t, is_n, not_n, non_n, non_i, non_b, non_s, non_t, non_r, abs_i, max_ii, min_ii, int_i, int_b, gcd_ii, len_t, ix_t, eq_v, ne_v, eq_ii, eq_bb, eq_nn, eq_in, eq_ni, iv_n_list, iv_n_tuple, iv_n_bool, iv_n_str, iv_n_int, okt_n, iv_b_list, iv_b_tuple, iv_b_bool, iv_b_str, iv_b_int, okt_b, iv_i_list, iv_i_tuple, iv_i_bool, iv_i_str, iv_i_int, okt_i, iv_s_list, iv_s_tuple, iv_s_bool, iv_s_str, iv_s_int, okt_s, iv_t_list, iv_t_tuple, iv_t_bool, iv_t_str, iv_t_int, okt_t, iv_r_list, iv_r_tuple, iv_r_bool, iv_r_str, iv_r_int, tru_b, tru_i, tru_n, tru_t, Option.map_some, Option.map_none, List.map_cons, List.map_nil, List.length_cons, List.length_nil, List.set_cons_zero, List.set_cons_succ, List.cons_append, List.nil_append, List.replicate, Nat.reduceAdd, Nat.reduceSub, Nat.reduceLeDiff, true_and, and_true, decide_eq_true_eq, reduceIte, Bool.false_eq_true, Bool.not_true, Bool.not_false, decide_true, decide_false]
  refine ⟨isIns_r k.ob, ?_⟩
  refine wp_mono2 (tell_bad hx k hr) (fun _ _ h => h.elim) ?_
  rintro cc fs m' ⟨rfl, rfl, G⟩
  exact ⟨_, rfl, .inl rfl, by simp, rfl, G⟩
theorem told_full {x : PV} (k : Bk m b h i c ts) (hl : ts.length = 80) (hr : ∀ m, WP (f_is_right [c, x] m) (fun y m' => y = .bl true ∧ Ap m m') NoE) :
    WP (f_law_told [.ref b, x] m) (fun y m' => y = .int 80 ∧ Gr m m') NoE := by
  unfold f_law_told b_law_told
  walk_at "w1"
  rw [s_seq]
  refine s_tryFF ?_
  try simp -dsimp only [w_methX, at0, at1, at2, at3, at4, at5, at6, wp_fn, s_nil, s_brk, s_cnt, s_expr, s_ret, s_retN, s_if, s_asn, s_par, s_asg, g_nm, g_nil, g_cons, g_tupT, g_subW, w_v0, w_vS, w_c, w_op, w_un, w_anil, w_acons, w_tup, w_lst, w_call, w_callU, w_isi, w_meth, w_tru, w_bool, w_notS, w_andS, w_orS, w_ifx, w_andV, w_orV, w_notV, w_chain, wp_ok, wp_bad, wp_some, wp_none, wp_liftif, wp_if, asB_b, wp_noex, add_ii, sub_ii, mul_ii, fdiv_ii, mod_ii, pow_ii, neg_i, cmp_ii, lt_ii, le_ii, gt_ii, ge_ii, le_cc, muls_ii, muls_si, ins_cs, iadd_ii, isub_ii, w_onone, w_osome, w_sl, sl_s, sl_t, s_aug, eq_ss, len_s, ix_s, add_ss, str_s, tuple_t, list_t, is_n, not_n, non_n, non_i, non_b, non_s, non_t, non_r, abs_i, max_ii, min_ii, int_i, int_b, gcd_ii, len_t, ix_t, eq_v, ne_v, eq_ii, eq_bb, eq_nn, eq_in, eq_ni, iv_n_list, iv_n_tuple, iv_n_bool, iv_n_str, iv_n_int, okt_n, iv_b_list, iv_b_tuple, iv_b_bool, iv_b_str, iv_b_int, okt_b, iv_i_list, iv_i_tuple, iv_i_bool, iv_i_str, iv_i_int, okt_i, iv_s_list, iv_s_tuple, iv_s_bool, iv_s_str, iv_s_int, okt_s, iv_t_list, iv_t_tuple, iv_t_bool, iv_t_str, iv_t_int, okt_t, iv_r_list, iv_r_tuple, iv_r_bool, iv_r_str, iv_r_int, tru_b, tru_i, tru_n, tru_t, Option.map_some, Option.map_none, List.map_cons, List.map_nil, List.length_cons, List.length_nil, List.set_cons_zero, List.set_cons_succ, List.cons_append, List.nil_append, List.replicate, Nat.reduceAdd, Nat.reduceSub, Nat.reduceLeDiff, true_and, and_true, decide_eq_true_eq, reduceIte, Bool.false_eq_true, Bool.not_true, Bool.not_false, decide_true, decide_false]
  refine ⟨isIns_r k.ob, ?_⟩
  refine wp_mono2 (tell_full k hl hr) (fun _ _ h => h.elim) ?_
  rintro cc fs m' ⟨rfl, rfl, G⟩
  exact ⟨_, rfl, .inr rfl, by simp, rfl, G⟩
theorem told_ok {e : En} (k : Bk m b h i c ts) (hl : ts.length < 80) (hr : ∀ m, WP (f_is_right [c, e.pv] m) (fun y m' => y = .bl true ∧ Ap m m') NoE) :
    WP (f_law_told [.ref b, e.pv] m) (fun y m' => y = .non ∧ Bk m' b h i c (ts ++ [Tl.mk (1 + maxDf (ts.map Tl.st) 0) i e]) ∧ FrK h m m') NoE := by
  unfold f_law_told b_law_told
  walk_at "w1"
  rw [s_seq]
  refine s_tryFF ?_
  try simp -dsimp only [w_methX, at0, at1, at2, at3, at4, at5, at6, wp_fn, s_nil, s_brk, s_cnt, s_expr, s_ret, s_retN, s_if, s_asn, s_par, s_asg, g_nm, g_nil, g_cons, g_tupT, g_subW, w_v0, w_vS, w_c, w_op, w_un, w_anil, w_acons, w_tup, w_lst, w_call, w_callU, w_isi, w_meth, w_tru, w_bool, w_notS, w_andS, w_orS, w_ifx, w_andV, w_orV, w_notV, w_chain, wp_ok, wp_bad, wp_some, wp_none, wp_liftif, wp_if, asB_b, wp_noex, add_ii, sub_ii, mul_ii, fdiv_ii, mod_ii, pow_ii, neg_i, cmp_ii, lt_ii, le_ii, gt_ii, ge_ii, le_cc, muls_ii, muls_si, ins_cs, iadd_ii, isub_ii, w_onone, w_osome, w_sl, sl_s, sl_t, s_aug, eq_ss, len_s, ix_s, add_ss, str_s, tuple_t, list_t, is_n, not_n, non_n, non_i, non_b, non_s, non_t, non_r, abs_i, max_ii, min_ii, int_i, int_b, gcd_ii, len_t, ix_t, eq_v, ne_v, eq_ii, eq_bb, eq_nn, eq_in, eq_ni, iv_n_list, iv_n_tuple, iv_n_bool, iv_n_str, iv_n_int, okt_n, iv_b_list, iv_b_tuple, iv_b_bool, iv_b_str, iv_b_int, okt_b, iv_i_list, iv_i_tuple, iv_i_bool, iv_i_str, iv_i_int, okt_i, iv_s_list, iv_s_tuple, iv_s_bool, iv_s_str, iv_s_int, okt_s, iv_t_list, iv_t_tuple, iv_t_bool, iv_t_str, iv_t_int, okt_t, iv_r_list, iv_r_tuple, iv_r_bool, iv_r_str, iv_r_int, tru_b, tru_i, tru_n, tru_t, Option.map_some, Option.map_none, List.map_cons, List.map_nil, List.length_cons, List.length_nil, List.set_cons_zero, List.set_cons_succ, List.cons_append, List.nil_append, List.replicate, Nat.reduceAdd, Nat.reduceSub, Nat.reduceLeDiff, true_and, and_true, decide_eq_true_eq, reduceIte, Bool.false_eq_true, Bool.not_true, Bool.not_false, decide_true, decide_false]
  refine ⟨isIns_r k.ob, ?_⟩
  refine wp_mono2 (tell_gen (E := NoE) k hl hr) ?_ (fun _ _ _ h => h.elim)
  rintro x m' ⟨K, F⟩
  walk_at "w0"
  exact ⟨K, F⟩
theorem init_bad {b : Nat} {i : Int} (h1 : frm (.int i) 1 9 = false) : WP (f_Book_init [.ref b, .int i, c] m) (fun _ _ => False) (fun cc fs m' => cc = "TooMany" ∧ fs = [.int 9] ∧ m' = m) := by
  unfold f_Book_init b_Book_init
  walk_at "w1"
  rw [s_seq]
  walk_at "w1"
  refine (isfrom_ok (nr_int _)).mono ?_
  rintro _ m ⟨rfl, rfl⟩
  rw [h1]
  walk_at "w0"
  rw [s_raise]
  walk_at "w0"
theorem made_bad {i : Int} (h1 : frm (.int i) 1 9 = false) : WP (f_law_made [.int i, c] m) (fun y m' => y = .int 9 ∧ Gr m m') NoE := by
  unfold f_law_made b_law_made
  walk_at "w1"
  rw [s_seq]
  refine s_tryA ?_
  walk_at "w0"
  refine w_makeX ?_
  walk_at "w0"
  refine wp_mono2 (init_bad h1) (fun _ _ h => h.elim) ?_
  rintro cc fs m' ⟨rfl, rfl, rfl⟩
  exact ⟨_, rfl, rfl, by simp, rfl, Gr.one⟩
theorem made_ok {i : Int} (h1 : 1 ≤ i) (h2 : i ≤ 9) : WP (f_law_made [.int i, c] m) (fun y m' => y = .non ∧ Gr m m') NoE := by
  unfold f_law_made b_law_made
  walk_at "w1"
  rw [s_seq]
  refine s_tryA ?_
  walk_at "w0"
  refine w_makeX ?_
  walk_at "w0"
  refine wp_mono2 (init_ok (b := m.length) (i := i) (c := c) get_new h1 h2) ?_ (fun _ _ _ h => h.elim)
  rintro _ m2 ⟨rfl, K, hl2, F2⟩
  walk_at "w0"
  refine ⟨by simp at hl2; omega, fun n o e => ?_⟩
  have hn := (List.getElem?_eq_some_iff.mp e).1
  exact F2.2 _ _ (by omega) (get_old e)
end
theorem eq_dataF {m : MH} {x y : PV} {d d' : PyData} (h0 : eqF x y = none) (h1 : toD m 8 x = some d) (h2 : toD m 8 y = some d') (h3 : PyData.canLay0 d = true) (h4 : PyData.depth d ≤ 64) (h5 : PyData.canLay0 d' = true) (h6 : PyData.depth d' ≤ 64) (hf : PyData.eqv d d' = false) : SM.eqV m x y = some false := by
  have s4 := shp h3 h4
  have s5 := shp h5 h6
  unfold SM.eqV
  rw [h0]
  dsimp only
  unfold eqD
  rw [h1, h2]
  dsimp only
  rw [if_pos ⟨s4, s5⟩, hf]
theorem eq_lstsF {m : MH} {i j : Nat} {xs ys : List PV} {ds es : List PyData} (h1 : seq? m i = some xs) (h2 : seq? m j = some ys) (h : DDs 7 xs ds) (h' : DDs 7 ys es) (hf : PyData.eqv (.list ds) (.list es) = false) : SM.eqV m (.ref i) (.ref j) = some false :=
  eq_dataF rfl (toD_lst h1 h) (toD_lst h2 h') (by simpa [PyData.canLay0] using h.all.2.1) (by have := h.all.2.2; simp [PyData.depth]; omega) (by simpa [PyData.canLay0] using h'.all.2.1) (by have := h'.all.2.2; simp [PyData.depth]; omega) hf
theorem cps_in {s : List Nat} (h : ∀ c ∈ s, c < 55296) : Cps s := fun c hc => by have := h c hc; omega
section
variable {m : MH} {L : List Loft} {B : List Bird} {R : List Race}
theorem israce_gen {r : Int} : WP (f_is_race [clubPV L B R, .int r] m) (fun x m' => x = .bl (frm (.int r) 0 ((R.length : Nat) - 1)) ∧ m' = m) NoE := by
  unfold f_is_race b_is_race clubPV
  walk_at "w0"
  rw [List.length_map]
  refine (isfrom_ok (nr_int _)).mono ?_
  rintro _ m ⟨rfl, rfl⟩
  exact ⟨rfl, rfl⟩
theorem isowner_bad {o : List Nat} {ds : List (List Nat × List Nat)} {es : List PyData} (hr : Rd o ds []) (hl : o.length ≤ 10000) (hc : Cps o) (hd : DDs 7 (ds.map tokPV) es) (hf : PyData.eqv (.list es) (.list [.tuple [.str ⟨[119, 111, 114, 100].toArray⟩, .str ⟨o.toArray⟩]]) = false) : WP (f_is_owner [.str o] m) (fun x m' => x = .bl false ∧ Ap m m') NoE := by
  unfold f_is_owner b_is_owner
  walk_at "w0"
  refine (tokens_ok hr hl).mono ?_
  rintro _ _ ⟨rfl, rfl⟩
  walk_at "w0"
  have q1 := get_old (o := MO.lst [.tup [.str [119, 111, 114, 100], .str o]]) (get_new (m := m) (o := MO.lst (ds.map tokPV)))
  have q2 := get_new (m := m ++ [MO.lst (ds.map tokPV)]) (o := MO.lst [.tup [.str [119, 111, 114, 100], .str o]])
  have A : Ap m ((m ++ [MO.lst (ds.map tokPV)]) ++ [MO.lst [.tup [.str [119, 111, 114, 100], .str o]]]) := Ap.one.trans Ap.one
  generalize (m ++ [MO.lst (ds.map tokPV)]) ++ [MO.lst [.tup [.str [119, 111, 114, 100], .str o]]] = m1 at *
  generalize (m ++ [MO.lst (ds.map tokPV)]).length = k1 at *
  rw [eq_lstsF (seq_of_lst q1) (seq_of_lst q2) hd (.cons (dd_tup (n := 6) (.cons (dd_str (cps_in (by decide))) (.cons (dd_str hc) .nil))) .nil) hf]
  walk_at "w0"
  exact A
theorem owner_Ann : WP (f_is_owner [.str [65, 110, 110]] m) (fun x m' => x = .bl false ∧ Ap m m') NoE := by
  have hr : Rd [65, 110, 110] [(sBad, [65]), (sWord, [110, 110])] [] := by
    have q : Rd ([110, 110] ++ []) ((if ([110, 110] : List Nat).length ≤ 8 then sWord else sBad, [110, 110]) :: []) [] := .tok (.word (by decide) (by decide) fun c r e => by cases e) .nil
    exact .tok (t := [65]) (.sgn (by decide) (by decide) (by decide) (by decide)) q
  exact isowner_bad hr (by decide) (cps_in (by decide)) (.cons (dd_tup (n := 6) (.cons (dd_str (cps_in (by decide))) (.cons (dd_str (cps_in (by decide))) .nil))) (.cons (dd_tup (n := 6) (.cons (dd_str (cps_in (by decide))) (.cons (dd_str (cps_in (by decide))) .nil))) .nil)) (by simp [PyData.eqv, PyData.eqvAll])
theorem owner_nine : WP (f_is_owner [.str [97, 98, 99, 100, 101, 102, 103, 104, 105]] m) (fun x m' => x = .bl false ∧ Ap m m') NoE := by
  have hr : Rd [97, 98, 99, 100, 101, 102, 103, 104, 105] [(sBad, [97, 98, 99, 100, 101, 102, 103, 104, 105])] [] := by
    have q : Rd ([97, 98, 99, 100, 101, 102, 103, 104, 105] ++ []) ((if ([97, 98, 99, 100, 101, 102, 103, 104, 105] : List Nat).length ≤ 8 then sWord else sBad, [97, 98, 99, 100, 101, 102, 103, 104, 105]) :: []) [] := .tok (.word (by decide) (by decide) fun c r e => by cases e) .nil
    exact q
  exact isowner_bad hr (by decide) (cps_in (by decide)) (.cons (dd_tup (n := 6) (.cons (dd_str (cps_in (by decide))) (.cons (dd_str (cps_in (by decide))) .nil))) .nil) (by simp [PyData.eqv, PyData.eqvAll, sBad])
theorem owner_none : WP (f_is_owner [.str []] m) (fun x m' => x = .bl false ∧ Ap m m') NoE :=
  isowner_bad (ds := []) .nil (by decide) (cps_in (by decide)) .nil (by simp [PyData.eqv, PyData.eqvAll])
theorem isr_clk_bad {r l b e s : Int} (hd : dueC R.length L.length (.int r) (.int l) (.int b) (.int e) (.int s) ≠ none) : WP (f_is_right [clubPV L B R, .tup [.str kClk, .int r, .int l, .int b, .int e, .int s]] m) (fun x m' => x = .bl false ∧ Ap m m') NoE := by
  have hk : ninTxv (.str kClk) (.tup [.str [99, 108, 111, 99, 107], .str [115, 108, 105, 112], .str [115, 116, 97, 107, 101], .str [116, 114, 97, 110, 115, 102, 101, 114]]) m = some (.bl false, m) := kinds_r (.clk ⟨0, 0, 0, 0, 0⟩)
  have hs : kgetv T_SIZES (.str kClk) m = some (.int 6, m) := sizes_r (.clk ⟨0, 0, 0, 0, 0⟩)
  unfold f_is_right b_is_right
  walk_at "w1"
  rw [s_seq]
  walk_at "w0"
  rw [s_seq]
  try simp -dsimp only [hk, hs, at0, at1, at2, at3, at4, at5, at6, wp_fn, s_nil, s_brk, s_cnt, s_expr, s_ret, s_retN, s_if, s_asn, s_par, s_asg, g_nm, g_nil, g_cons, g_tupT, g_subW, w_v0, w_vS, w_c, w_op, w_un, w_anil, w_acons, w_tup, w_lst, w_call, w_callU, w_isi, w_meth, w_tru, w_bool, w_notS, w_andS, w_orS, w_ifx, w_andV, w_orV, w_notV, w_chain, wp_ok, wp_bad, wp_some, wp_none, wp_liftif, wp_if, asB_b, wp_noex, add_ii, sub_ii, mul_ii, fdiv_ii, mod_ii, pow_ii, neg_i, cmp_ii, lt_ii, le_ii, gt_ii, ge_ii, le_cc, muls_ii, muls_si, ins_cs, iadd_ii, isub_ii, w_onone, w_osome, w_sl, sl_s, sl_t, s_aug, eq_ss, len_s, ix_s, add_ss, str_s, tuple_t, list_t, is_n, not_n, non_n, non_i, non_b, non_s, non_t, non_r, abs_i, max_ii, min_ii, int_i, int_b, gcd_ii, len_t, ix_t, eq_v, ne_v, eq_ii, eq_bb, eq_nn, eq_in, eq_ni, iv_n_list, iv_n_tuple, iv_n_bool, iv_n_str, iv_n_int, okt_n, iv_b_list, iv_b_tuple, iv_b_bool, iv_b_str, iv_b_int, okt_b, iv_i_list, iv_i_tuple, iv_i_bool, iv_i_str, iv_i_int, okt_i, iv_s_list, iv_s_tuple, iv_s_bool, iv_s_str, iv_s_int, okt_s, iv_t_list, iv_t_tuple, iv_t_bool, iv_t_str, iv_t_int, okt_t, iv_r_list, iv_r_tuple, iv_r_bool, iv_r_str, iv_r_int, tru_b, tru_i, tru_n, tru_t, Option.map_some, Option.map_none, List.map_cons, List.map_nil, List.length_cons, List.length_nil, List.set_cons_zero, List.set_cons_succ, List.cons_append, List.nil_append, List.replicate, Nat.reduceAdd, Nat.reduceSub, Nat.reduceLeDiff, true_and, and_true, decide_eq_true_eq, reduceIte, Bool.false_eq_true, Bool.not_true, Bool.not_false, decide_true, decide_false]
  rw [s_seq]
  try simp -dsimp only [kClk, at0, at1, at2, at3, at4, at5, at6, wp_fn, s_nil, s_brk, s_cnt, s_expr, s_ret, s_retN, s_if, s_asn, s_par, s_asg, g_nm, g_nil, g_cons, g_tupT, g_subW, w_v0, w_vS, w_c, w_op, w_un, w_anil, w_acons, w_tup, w_lst, w_call, w_callU, w_isi, w_meth, w_tru, w_bool, w_notS, w_andS, w_orS, w_ifx, w_andV, w_orV, w_notV, w_chain, wp_ok, wp_bad, wp_some, wp_none, wp_liftif, wp_if, asB_b, wp_noex, add_ii, sub_ii, mul_ii, fdiv_ii, mod_ii, pow_ii, neg_i, cmp_ii, lt_ii, le_ii, gt_ii, ge_ii, le_cc, muls_ii, muls_si, ins_cs, iadd_ii, isub_ii, w_onone, w_osome, w_sl, sl_s, sl_t, s_aug, eq_ss, len_s, ix_s, add_ss, str_s, tuple_t, list_t, is_n, not_n, non_n, non_i, non_b, non_s, non_t, non_r, abs_i, max_ii, min_ii, int_i, int_b, gcd_ii, len_t, ix_t, eq_v, ne_v, eq_ii, eq_bb, eq_nn, eq_in, eq_ni, iv_n_list, iv_n_tuple, iv_n_bool, iv_n_str, iv_n_int, okt_n, iv_b_list, iv_b_tuple, iv_b_bool, iv_b_str, iv_b_int, okt_b, iv_i_list, iv_i_tuple, iv_i_bool, iv_i_str, iv_i_int, okt_i, iv_s_list, iv_s_tuple, iv_s_bool, iv_s_str, iv_s_int, okt_s, iv_t_list, iv_t_tuple, iv_t_bool, iv_t_str, iv_t_int, okt_t, iv_r_list, iv_r_tuple, iv_r_bool, iv_r_str, iv_r_int, tru_b, tru_i, tru_n, tru_t, Option.map_some, Option.map_none, List.map_cons, List.map_nil, List.length_cons, List.length_nil, List.set_cons_zero, List.set_cons_succ, List.cons_append, List.nil_append, List.replicate, Nat.reduceAdd, Nat.reduceSub, Nat.reduceLeDiff, true_and, and_true, decide_eq_true_eq, reduceIte, Bool.false_eq_true, Bool.not_true, Bool.not_false, decide_true, decide_false]
  rw [cut1]
  unfold f_is_right_clock b_is_right_clock
  walk_at "w1"
  rw [s_seq]
  refine s_tryO ?_
  try simp -dsimp only [w_callX, at0, at1, at2, at3, at4, at5, at6, wp_fn, s_nil, s_brk, s_cnt, s_expr, s_ret, s_retN, s_if, s_asn, s_par, s_asg, g_nm, g_nil, g_cons, g_tupT, g_subW, w_v0, w_vS, w_c, w_op, w_un, w_anil, w_acons, w_tup, w_lst, w_call, w_callU, w_isi, w_meth, w_tru, w_bool, w_notS, w_andS, w_orS, w_ifx, w_andV, w_orV, w_notV, w_chain, wp_ok, wp_bad, wp_some, wp_none, wp_liftif, wp_if, asB_b, wp_noex, add_ii, sub_ii, mul_ii, fdiv_ii, mod_ii, pow_ii, neg_i, cmp_ii, lt_ii, le_ii, gt_ii, ge_ii, le_cc, muls_ii, muls_si, ins_cs, iadd_ii, isub_ii, w_onone, w_osome, w_sl, sl_s, sl_t, s_aug, eq_ss, len_s, ix_s, add_ss, str_s, tuple_t, list_t, is_n, not_n, non_n, non_i, non_b, non_s, non_t, non_r, abs_i, max_ii, min_ii, int_i, int_b, gcd_ii, len_t, ix_t, eq_v, ne_v, eq_ii, eq_bb, eq_nn, eq_in, eq_ni, iv_n_list, iv_n_tuple, iv_n_bool, iv_n_str, iv_n_int, okt_n, iv_b_list, iv_b_tuple, iv_b_bool, iv_b_str, iv_b_int, okt_b, iv_i_list, iv_i_tuple, iv_i_bool, iv_i_str, iv_i_int, okt_i, iv_s_list, iv_s_tuple, iv_s_bool, iv_s_str, iv_s_int, okt_s, iv_t_list, iv_t_tuple, iv_t_bool, iv_t_str, iv_t_int, okt_t, iv_r_list, iv_r_tuple, iv_r_bool, iv_r_str, iv_r_int, tru_b, tru_i, tru_n, tru_t, Option.map_some, Option.map_none, List.map_cons, List.map_nil, List.length_cons, List.length_nil, List.set_cons_zero, List.set_cons_succ, List.cons_append, List.nil_append, List.replicate, Nat.reduceAdd, Nat.reduceSub, Nat.reduceLeDiff, true_and, and_true, decide_eq_true_eq, reduceIte, Bool.false_eq_true, Bool.not_true, Bool.not_false, decide_true, decide_false]
  refine wp_mono2 (ckc_ok (nr_int _) (nr_int _) (nr_int _) (nr_int _) (nr_int _)) ?_ ?_
  · rintro x m' ⟨rfl, z, rfl⟩
    exact absurd z hd
  · rintro c fs m' ⟨rfl, t, rfl, e, rfl⟩
    refine ⟨⟨_, rfl⟩, rfl, ?_⟩
    walk_at "w0"
    exact Ap.refl
theorem isr_stk_bad {r g u : Int} (hB : B.length ≤ 100) (hbad : frm (.int r) 0 ((R.length : Nat) - 1) = false ∨ ringIn B (.int g) = false ∨ frm (.int u) 0 1000 = false) : WP (f_is_right [clubPV L B R, .tup [.str kStk, .int r, .int g, .int u]] m) (fun x m' => x = .bl false ∧ Ap m m') NoE := by
  have hk : ninTxv (.str kStk) (.tup [.str [99, 108, 111, 99, 107], .str [115, 108, 105, 112], .str [115, 116, 97, 107, 101], .str [116, 114, 97, 110, 115, 102, 101, 114]]) m = some (.bl false, m) := kinds_r (.stk 0 0 0)
  have hs : kgetv T_SIZES (.str kStk) m = some (.int 4, m) := sizes_r (.stk 0 0 0)
  unfold f_is_right b_is_right
  walk_at "w1"
  rw [s_seq]
  walk_at "w0"
  rw [s_seq]
  try simp -dsimp only [hk, hs, at0, at1, at2, at3, at4, at5, at6, wp_fn, s_nil, s_brk, s_cnt, s_expr, s_ret, s_retN, s_if, s_asn, s_par, s_asg, g_nm, g_nil, g_cons, g_tupT, g_subW, w_v0, w_vS, w_c, w_op, w_un, w_anil, w_acons, w_tup, w_lst, w_call, w_callU, w_isi, w_meth, w_tru, w_bool, w_notS, w_andS, w_orS, w_ifx, w_andV, w_orV, w_notV, w_chain, wp_ok, wp_bad, wp_some, wp_none, wp_liftif, wp_if, asB_b, wp_noex, add_ii, sub_ii, mul_ii, fdiv_ii, mod_ii, pow_ii, neg_i, cmp_ii, lt_ii, le_ii, gt_ii, ge_ii, le_cc, muls_ii, muls_si, ins_cs, iadd_ii, isub_ii, w_onone, w_osome, w_sl, sl_s, sl_t, s_aug, eq_ss, len_s, ix_s, add_ss, str_s, tuple_t, list_t, is_n, not_n, non_n, non_i, non_b, non_s, non_t, non_r, abs_i, max_ii, min_ii, int_i, int_b, gcd_ii, len_t, ix_t, eq_v, ne_v, eq_ii, eq_bb, eq_nn, eq_in, eq_ni, iv_n_list, iv_n_tuple, iv_n_bool, iv_n_str, iv_n_int, okt_n, iv_b_list, iv_b_tuple, iv_b_bool, iv_b_str, iv_b_int, okt_b, iv_i_list, iv_i_tuple, iv_i_bool, iv_i_str, iv_i_int, okt_i, iv_s_list, iv_s_tuple, iv_s_bool, iv_s_str, iv_s_int, okt_s, iv_t_list, iv_t_tuple, iv_t_bool, iv_t_str, iv_t_int, okt_t, iv_r_list, iv_r_tuple, iv_r_bool, iv_r_str, iv_r_int, tru_b, tru_i, tru_n, tru_t, Option.map_some, Option.map_none, List.map_cons, List.map_nil, List.length_cons, List.length_nil, List.set_cons_zero, List.set_cons_succ, List.cons_append, List.nil_append, List.replicate, Nat.reduceAdd, Nat.reduceSub, Nat.reduceLeDiff, true_and, and_true, decide_eq_true_eq, reduceIte, Bool.false_eq_true, Bool.not_true, Bool.not_false, decide_true, decide_false]
  rw [s_seq]
  try simp -dsimp only [kStk, at0, at1, at2, at3, at4, at5, at6, wp_fn, s_nil, s_brk, s_cnt, s_expr, s_ret, s_retN, s_if, s_asn, s_par, s_asg, g_nm, g_nil, g_cons, g_tupT, g_subW, w_v0, w_vS, w_c, w_op, w_un, w_anil, w_acons, w_tup, w_lst, w_call, w_callU, w_isi, w_meth, w_tru, w_bool, w_notS, w_andS, w_orS, w_ifx, w_andV, w_orV, w_notV, w_chain, wp_ok, wp_bad, wp_some, wp_none, wp_liftif, wp_if, asB_b, wp_noex, add_ii, sub_ii, mul_ii, fdiv_ii, mod_ii, pow_ii, neg_i, cmp_ii, lt_ii, le_ii, gt_ii, ge_ii, le_cc, muls_ii, muls_si, ins_cs, iadd_ii, isub_ii, w_onone, w_osome, w_sl, sl_s, sl_t, s_aug, eq_ss, len_s, ix_s, add_ss, str_s, tuple_t, list_t, is_n, not_n, non_n, non_i, non_b, non_s, non_t, non_r, abs_i, max_ii, min_ii, int_i, int_b, gcd_ii, len_t, ix_t, eq_v, ne_v, eq_ii, eq_bb, eq_nn, eq_in, eq_ni, iv_n_list, iv_n_tuple, iv_n_bool, iv_n_str, iv_n_int, okt_n, iv_b_list, iv_b_tuple, iv_b_bool, iv_b_str, iv_b_int, okt_b, iv_i_list, iv_i_tuple, iv_i_bool, iv_i_str, iv_i_int, okt_i, iv_s_list, iv_s_tuple, iv_s_bool, iv_s_str, iv_s_int, okt_s, iv_t_list, iv_t_tuple, iv_t_bool, iv_t_str, iv_t_int, okt_t, iv_r_list, iv_r_tuple, iv_r_bool, iv_r_str, iv_r_int, tru_b, tru_i, tru_n, tru_t, Option.map_some, Option.map_none, List.map_cons, List.map_nil, List.length_cons, List.length_nil, List.set_cons_zero, List.set_cons_succ, List.cons_append, List.nil_append, List.replicate, Nat.reduceAdd, Nat.reduceSub, Nat.reduceLeDiff, true_and, and_true, decide_eq_true_eq, reduceIte, Bool.false_eq_true, Bool.not_true, Bool.not_false, decide_true, decide_false]
  rw [if_neg (by decide), if_neg (by decide)]
  walk_at "w0"
  rw [s_seq]
  walk_at "w0"
  rw [if_neg (by decide)]
  walk_at "w0"
  rw [s_seq]
  walk_at "w0"
  rw [s_seq]
  walk_at "w0"
  refine (israce_gen).mono ?_
  rintro _ m1 ⟨rfl, rfl⟩
  cases c1 : frm (.int r) 0 ((R.length : Nat) - 1) with
  | false =>
    walk_at "w0"
    exact Ap.refl
  | true =>
    walk_at "w0"
    refine (isring_ok (nr_int _) hB).mono ?_
    rintro _ m1 ⟨rfl, A1⟩
    cases c2 : ringIn B (.int g) with
    | false =>
      walk_at "w0"
      exact A1
    | true =>
      walk_at "w0"
      rw [s_seq]
      walk_at "w0"
      refine (isfrom_ok (nr_int _)).mono ?_
      rintro _ m1 ⟨rfl, rfl⟩
      exact ⟨by rw [(hbad.resolve_left (by rw [c1]; decide)).resolve_left (by rw [c2]; decide)], A1⟩
theorem isr_slp_bad {r g : Int} {v : PV} (hv : NoRef v) (hB : B.length ≤ 100) (hbad : frm (.int r) 0 ((R.length : Nat) - 1) = false ∨ ringIn B (.int g) = false ∨ ∃ k, v = .int k ∧ frm (.int k) 0 9999 = false) : WP (f_is_right [clubPV L B R, .tup [.str kSlp, .int r, .int g, v]] m) (fun x m' => x = .bl false ∧ Ap m m') NoE := by
  have hk : ninTxv (.str kSlp) (.tup [.str [99, 108, 111, 99, 107], .str [115, 108, 105, 112], .str [115, 116, 97, 107, 101], .str [116, 114, 97, 110, 115, 102, 101, 114]]) m = some (.bl false, m) := kinds_r (.slp 0 0 .non)
  have hs : kgetv T_SIZES (.str kSlp) m = some (.int 4, m) := sizes_r (.slp 0 0 .non)
  unfold f_is_right b_is_right
  walk_at "w1"
  rw [s_seq]
  walk_at "w0"
  rw [s_seq]
  try simp -dsimp only [hk, hs, at0, at1, at2, at3, at4, at5, at6, wp_fn, s_nil, s_brk, s_cnt, s_expr, s_ret, s_retN, s_if, s_asn, s_par, s_asg, g_nm, g_nil, g_cons, g_tupT, g_subW, w_v0, w_vS, w_c, w_op, w_un, w_anil, w_acons, w_tup, w_lst, w_call, w_callU, w_isi, w_meth, w_tru, w_bool, w_notS, w_andS, w_orS, w_ifx, w_andV, w_orV, w_notV, w_chain, wp_ok, wp_bad, wp_some, wp_none, wp_liftif, wp_if, asB_b, wp_noex, add_ii, sub_ii, mul_ii, fdiv_ii, mod_ii, pow_ii, neg_i, cmp_ii, lt_ii, le_ii, gt_ii, ge_ii, le_cc, muls_ii, muls_si, ins_cs, iadd_ii, isub_ii, w_onone, w_osome, w_sl, sl_s, sl_t, s_aug, eq_ss, len_s, ix_s, add_ss, str_s, tuple_t, list_t, is_n, not_n, non_n, non_i, non_b, non_s, non_t, non_r, abs_i, max_ii, min_ii, int_i, int_b, gcd_ii, len_t, ix_t, eq_v, ne_v, eq_ii, eq_bb, eq_nn, eq_in, eq_ni, iv_n_list, iv_n_tuple, iv_n_bool, iv_n_str, iv_n_int, okt_n, iv_b_list, iv_b_tuple, iv_b_bool, iv_b_str, iv_b_int, okt_b, iv_i_list, iv_i_tuple, iv_i_bool, iv_i_str, iv_i_int, okt_i, iv_s_list, iv_s_tuple, iv_s_bool, iv_s_str, iv_s_int, okt_s, iv_t_list, iv_t_tuple, iv_t_bool, iv_t_str, iv_t_int, okt_t, iv_r_list, iv_r_tuple, iv_r_bool, iv_r_str, iv_r_int, tru_b, tru_i, tru_n, tru_t, Option.map_some, Option.map_none, List.map_cons, List.map_nil, List.length_cons, List.length_nil, List.set_cons_zero, List.set_cons_succ, List.cons_append, List.nil_append, List.replicate, Nat.reduceAdd, Nat.reduceSub, Nat.reduceLeDiff, true_and, and_true, decide_eq_true_eq, reduceIte, Bool.false_eq_true, Bool.not_true, Bool.not_false, decide_true, decide_false]
  rw [s_seq]
  try simp -dsimp only [kSlp, at0, at1, at2, at3, at4, at5, at6, wp_fn, s_nil, s_brk, s_cnt, s_expr, s_ret, s_retN, s_if, s_asn, s_par, s_asg, g_nm, g_nil, g_cons, g_tupT, g_subW, w_v0, w_vS, w_c, w_op, w_un, w_anil, w_acons, w_tup, w_lst, w_call, w_callU, w_isi, w_meth, w_tru, w_bool, w_notS, w_andS, w_orS, w_ifx, w_andV, w_orV, w_notV, w_chain, wp_ok, wp_bad, wp_some, wp_none, wp_liftif, wp_if, asB_b, wp_noex, add_ii, sub_ii, mul_ii, fdiv_ii, mod_ii, pow_ii, neg_i, cmp_ii, lt_ii, le_ii, gt_ii, ge_ii, le_cc, muls_ii, muls_si, ins_cs, iadd_ii, isub_ii, w_onone, w_osome, w_sl, sl_s, sl_t, s_aug, eq_ss, len_s, ix_s, add_ss, str_s, tuple_t, list_t, is_n, not_n, non_n, non_i, non_b, non_s, non_t, non_r, abs_i, max_ii, min_ii, int_i, int_b, gcd_ii, len_t, ix_t, eq_v, ne_v, eq_ii, eq_bb, eq_nn, eq_in, eq_ni, iv_n_list, iv_n_tuple, iv_n_bool, iv_n_str, iv_n_int, okt_n, iv_b_list, iv_b_tuple, iv_b_bool, iv_b_str, iv_b_int, okt_b, iv_i_list, iv_i_tuple, iv_i_bool, iv_i_str, iv_i_int, okt_i, iv_s_list, iv_s_tuple, iv_s_bool, iv_s_str, iv_s_int, okt_s, iv_t_list, iv_t_tuple, iv_t_bool, iv_t_str, iv_t_int, okt_t, iv_r_list, iv_r_tuple, iv_r_bool, iv_r_str, iv_r_int, tru_b, tru_i, tru_n, tru_t, Option.map_some, Option.map_none, List.map_cons, List.map_nil, List.length_cons, List.length_nil, List.set_cons_zero, List.set_cons_succ, List.cons_append, List.nil_append, List.replicate, Nat.reduceAdd, Nat.reduceSub, Nat.reduceLeDiff, true_and, and_true, decide_eq_true_eq, reduceIte, Bool.false_eq_true, Bool.not_true, Bool.not_false, decide_true, decide_false]
  rw [if_neg (by decide), if_neg (by decide)]
  walk_at "w0"
  rw [s_seq]
  walk_at "w0"
  rw [if_neg (by decide)]
  walk_at "w0"
  rw [s_seq]
  walk_at "w0"
  rw [s_seq]
  walk_at "w0"
  refine (israce_gen).mono ?_
  rintro _ m1 ⟨rfl, rfl⟩
  cases c1 : frm (.int r) 0 ((R.length : Nat) - 1) with
  | false =>
    walk_at "w0"
    exact Ap.refl
  | true =>
    walk_at "w0"
    refine (isring_ok (nr_int _) hB).mono ?_
    rintro _ m1 ⟨rfl, A1⟩
    cases c2 : ringIn B (.int g) with
    | false =>
      walk_at "w0"
      exact A1
    | true =>
      obtain ⟨k, rfl, hk9⟩ := (hbad.resolve_left (by rw [c1]; decide)).resolve_left (by rw [c2]; decide)
      walk_at "w0"
      rw [s_seq]
      walk_at "w0"
      refine (isfrom_ok (nr_int _)).mono ?_
      rintro _ m1 ⟨rfl, rfl⟩
      rw [hk9]
      walk_at "w0"
      exact A1
theorem isr_tra_bad {r g : Int} {o : List Nat} (hB : B.length ≤ 100) (hbad : ringIn B (.int g) = false ∨ frm (.int r) 0 ((R.length : Nat) - 1) = false ∨ ∀ m, WP (f_is_owner [.str o] m) (fun x m' => x = .bl false ∧ Ap m m') NoE) : WP (f_is_right [clubPV L B R, .tup [.str kTra, .int g, .int r, .str o]] m) (fun x m' => x = .bl false ∧ Ap m m') NoE := by
  have hk : ninTxv (.str kTra) (.tup [.str [99, 108, 111, 99, 107], .str [115, 108, 105, 112], .str [115, 116, 97, 107, 101], .str [116, 114, 97, 110, 115, 102, 101, 114]]) m = some (.bl false, m) := kinds_r (.tra 0 0 [])
  have hs : kgetv T_SIZES (.str kTra) m = some (.int 4, m) := sizes_r (.tra 0 0 [])
  unfold f_is_right b_is_right
  walk_at "w1"
  rw [s_seq]
  walk_at "w0"
  rw [s_seq]
  try simp -dsimp only [hk, hs, at0, at1, at2, at3, at4, at5, at6, wp_fn, s_nil, s_brk, s_cnt, s_expr, s_ret, s_retN, s_if, s_asn, s_par, s_asg, g_nm, g_nil, g_cons, g_tupT, g_subW, w_v0, w_vS, w_c, w_op, w_un, w_anil, w_acons, w_tup, w_lst, w_call, w_callU, w_isi, w_meth, w_tru, w_bool, w_notS, w_andS, w_orS, w_ifx, w_andV, w_orV, w_notV, w_chain, wp_ok, wp_bad, wp_some, wp_none, wp_liftif, wp_if, asB_b, wp_noex, add_ii, sub_ii, mul_ii, fdiv_ii, mod_ii, pow_ii, neg_i, cmp_ii, lt_ii, le_ii, gt_ii, ge_ii, le_cc, muls_ii, muls_si, ins_cs, iadd_ii, isub_ii, w_onone, w_osome, w_sl, sl_s, sl_t, s_aug, eq_ss, len_s, ix_s, add_ss, str_s, tuple_t, list_t, is_n, not_n, non_n, non_i, non_b, non_s, non_t, non_r, abs_i, max_ii, min_ii, int_i, int_b, gcd_ii, len_t, ix_t, eq_v, ne_v, eq_ii, eq_bb, eq_nn, eq_in, eq_ni, iv_n_list, iv_n_tuple, iv_n_bool, iv_n_str, iv_n_int, okt_n, iv_b_list, iv_b_tuple, iv_b_bool, iv_b_str, iv_b_int, okt_b, iv_i_list, iv_i_tuple, iv_i_bool, iv_i_str, iv_i_int, okt_i, iv_s_list, iv_s_tuple, iv_s_bool, iv_s_str, iv_s_int, okt_s, iv_t_list, iv_t_tuple, iv_t_bool, iv_t_str, iv_t_int, okt_t, iv_r_list, iv_r_tuple, iv_r_bool, iv_r_str, iv_r_int, tru_b, tru_i, tru_n, tru_t, Option.map_some, Option.map_none, List.map_cons, List.map_nil, List.length_cons, List.length_nil, List.set_cons_zero, List.set_cons_succ, List.cons_append, List.nil_append, List.replicate, Nat.reduceAdd, Nat.reduceSub, Nat.reduceLeDiff, true_and, and_true, decide_eq_true_eq, reduceIte, Bool.false_eq_true, Bool.not_true, Bool.not_false, decide_true, decide_false]
  rw [s_seq]
  try simp -dsimp only [kTra, at0, at1, at2, at3, at4, at5, at6, wp_fn, s_nil, s_brk, s_cnt, s_expr, s_ret, s_retN, s_if, s_asn, s_par, s_asg, g_nm, g_nil, g_cons, g_tupT, g_subW, w_v0, w_vS, w_c, w_op, w_un, w_anil, w_acons, w_tup, w_lst, w_call, w_callU, w_isi, w_meth, w_tru, w_bool, w_notS, w_andS, w_orS, w_ifx, w_andV, w_orV, w_notV, w_chain, wp_ok, wp_bad, wp_some, wp_none, wp_liftif, wp_if, asB_b, wp_noex, add_ii, sub_ii, mul_ii, fdiv_ii, mod_ii, pow_ii, neg_i, cmp_ii, lt_ii, le_ii, gt_ii, ge_ii, le_cc, muls_ii, muls_si, ins_cs, iadd_ii, isub_ii, w_onone, w_osome, w_sl, sl_s, sl_t, s_aug, eq_ss, len_s, ix_s, add_ss, str_s, tuple_t, list_t, is_n, not_n, non_n, non_i, non_b, non_s, non_t, non_r, abs_i, max_ii, min_ii, int_i, int_b, gcd_ii, len_t, ix_t, eq_v, ne_v, eq_ii, eq_bb, eq_nn, eq_in, eq_ni, iv_n_list, iv_n_tuple, iv_n_bool, iv_n_str, iv_n_int, okt_n, iv_b_list, iv_b_tuple, iv_b_bool, iv_b_str, iv_b_int, okt_b, iv_i_list, iv_i_tuple, iv_i_bool, iv_i_str, iv_i_int, okt_i, iv_s_list, iv_s_tuple, iv_s_bool, iv_s_str, iv_s_int, okt_s, iv_t_list, iv_t_tuple, iv_t_bool, iv_t_str, iv_t_int, okt_t, iv_r_list, iv_r_tuple, iv_r_bool, iv_r_str, iv_r_int, tru_b, tru_i, tru_n, tru_t, Option.map_some, Option.map_none, List.map_cons, List.map_nil, List.length_cons, List.length_nil, List.set_cons_zero, List.set_cons_succ, List.cons_append, List.nil_append, List.replicate, Nat.reduceAdd, Nat.reduceSub, Nat.reduceLeDiff, true_and, and_true, decide_eq_true_eq, reduceIte, Bool.false_eq_true, Bool.not_true, Bool.not_false, decide_true, decide_false]
  rw [if_neg (by decide)]
  walk_at "w0"
  rw [s_seq]
  walk_at "w0"
  rw [s_seq]
  walk_at "w0"
  refine (isring_ok (nr_int _) hB).mono ?_
  rintro _ m1 ⟨rfl, A1⟩
  cases c2 : ringIn B (.int g) with
  | false =>
    walk_at "w0"
    exact A1
  | true =>
    walk_at "w0"
    refine (israce_gen).mono ?_
    rintro _ m1 ⟨rfl, rfl⟩
    cases c1 : frm (.int r) 0 ((R.length : Nat) - 1) with
    | false =>
      walk_at "w0"
      exact A1
    | true =>
      walk_at "w0"
      refine ((hbad.resolve_left (by rw [c2]; decide)).resolve_left (by rw [c1]; decide) m1).mono ?_
      rintro _ m2 ⟨rfl, A2⟩
      exact ⟨rfl, A1.trans A2⟩
end
theorem w_pick {m : MH} {rows : List PV} {v : Int} {Q : PV → MH → Prop} {E : EX} (h0 : 0 ≤ v) (h1 : v < (rows.length : Nat)) (h : ∀ x ∈ rows, Q x (m ++ [.lst rows])) : WP (lift (ixv (.ref m.length) (.int v) (m ++ [.lst rows]))) Q E := by
  obtain ⟨x, ex, hx⟩ := atI_in h0 h1
  rw [ix_r (seq_of_lst get_new), ex]
  show WP (.ok x (m ++ [.lst rows])) Q E
  rw [wp_ok]
  exact h x hx
theorem dueC_ne {nr nl : Nat} {v0 v1 v2 v3 v4 : PV} (h : frm v1 0 (nl - 1) = false ∨ frm v3 (num v2 + 1) 9999 = false ∨ frm v4 (num v2 + 1) 9999 = false) : dueC nr nl v0 v1 v2 v3 v4 ≠ none := by
  unfold dueC
  by_cases c0 : frm v0 0 (nr - 1) = true
  · rw [if_pos c0]
    by_cases c1 : frm v1 0 (nl - 1) = true
    · rw [if_pos c1]
      by_cases c2 : frm v2 0 9999 = true
      · rw [if_pos c2]
        by_cases c3 : frm v3 (num v2 + 1) 9999 = true
        · rw [if_pos c3]
          by_cases c4 : frm v4 (num v2 + 1) 9999 = true
          · rcases h with h | h | h
            · rw [h] at c1; cases c1
            · rw [h] at c3; cases c3
            · rw [h] at c4; cases c4
          · rw [if_neg c4]; exact fun z => by cases z
        · rw [if_neg c3]; exact fun z => by cases z
      · rw [if_neg c2]; exact fun z => by cases z
    · rw [if_neg c1]; exact fun z => by cases z
  · rw [if_neg c0]; exact fun z => by cases z
theorem frm_over {n : Nat} : frm (.int (n : Nat)) 0 ((n : Nat) - 1) = false := by
  unfold frm
  simp
  omega
section
variable {m : MH} {L : List Loft} {B : List Bird} {R : List Race}
theorem ring_out (hC : ClubG L B R) {t : Int} (ht : 45 < t) : ringIn B (.int t) = false := by
  unfold ringIn
  refine decide_eq_false fun z => ?_
  obtain ⟨b, hb, e⟩ := List.mem_map.mp z
  have := hC.rg b hb
  omega
theorem wrong_ok (hC : ClubG L B R) {c : Int} : WP (f_law_wrong [clubPV L B R, .int c] m) (fun x m' => ∃ kd r, x = .tup (.str kd :: r) ∧ (∀ m, WP (f_is_right [clubPV L B R, x] m) (fun y m' => y = .bl false ∧ Ap m m') NoE) ∧ Gr m m') NoE := by
  have hB : B.length ≤ 100 := by have := hC.b2; omega
  have o8 := ring_out hC (t := 998) (by decide)
  have o9 := ring_out hC (t := 999) (by decide)
  obtain ⟨bd, B', rfl⟩ : ∃ bd B', B = bd :: B' := by
    cases B with
    | nil => have := hC.b1; simp at this
    | cons x xs => exact ⟨_, _, rfl⟩
  obtain ⟨rc, R', rfl⟩ : ∃ rc R', R = rc :: R' := by
    cases R with
    | nil => have := hC.r1; simp at this
    | cons x xs => exact ⟨_, _, rfl⟩
  have key : ∀ x m', (∀ m, WP (f_is_right [clubPV L (bd :: B') (rc :: R'), x] m) (fun y m' => y = .bl false ∧ Ap m m') NoE) → (∃ kd r, x = .tup (.str kd :: r)) → Gr m m' → ∃ kd r, x = .tup (.str kd :: r) ∧ (∀ m, WP (f_is_right [clubPV L (bd :: B') (rc :: R'), x] m) (fun y m' => y = .bl false ∧ Ap m m') NoE) ∧ Gr m m' := fun x m' h1 ⟨kd, r, e⟩ G => ⟨kd, r, e, h1, G⟩
  unfold f_law_wrong b_law_wrong
  rw [show clubPV L (bd :: B') (rc :: R') = .tup [.tup (L.map Loft.pv), .tup (Bird.pv bd :: B'.map Bird.pv), .tup (Race.pv rc :: R'.map Race.pv)] from rfl] at *
  walk_at "w1"
  rw [s_seq]
  try simp -dsimp only [at0, Bird.pv, at0, at1, at2, at3, at4, at5, at6, wp_fn, s_nil, s_brk, s_cnt, s_expr, s_ret, s_retN, s_if, s_asn, s_par, s_asg, g_nm, g_nil, g_cons, g_tupT, g_subW, w_v0, w_vS, w_c, w_op, w_un, w_anil, w_acons, w_tup, w_lst, w_call, w_callU, w_isi, w_meth, w_tru, w_bool, w_notS, w_andS, w_orS, w_ifx, w_andV, w_orV, w_notV, w_chain, wp_ok, wp_bad, wp_some, wp_none, wp_liftif, wp_if, asB_b, wp_noex, add_ii, sub_ii, mul_ii, fdiv_ii, mod_ii, pow_ii, neg_i, cmp_ii, lt_ii, le_ii, gt_ii, ge_ii, le_cc, muls_ii, muls_si, ins_cs, iadd_ii, isub_ii, w_onone, w_osome, w_sl, sl_s, sl_t, s_aug, eq_ss, len_s, ix_s, add_ss, str_s, tuple_t, list_t, is_n, not_n, non_n, non_i, non_b, non_s, non_t, non_r, abs_i, max_ii, min_ii, int_i, int_b, gcd_ii, len_t, ix_t, eq_v, ne_v, eq_ii, eq_bb, eq_nn, eq_in, eq_ni, iv_n_list, iv_n_tuple, iv_n_bool, iv_n_str, iv_n_int, okt_n, iv_b_list, iv_b_tuple, iv_b_bool, iv_b_str, iv_b_int, okt_b, iv_i_list, iv_i_tuple, iv_i_bool, iv_i_str, iv_i_int, okt_i, iv_s_list, iv_s_tuple, iv_s_bool, iv_s_str, iv_s_int, okt_s, iv_t_list, iv_t_tuple, iv_t_bool, iv_t_str, iv_t_int, okt_t, iv_r_list, iv_r_tuple, iv_r_bool, iv_r_str, iv_r_int, tru_b, tru_i, tru_n, tru_t, Option.map_some, Option.map_none, List.map_cons, List.map_nil, List.length_cons, List.length_nil, List.set_cons_zero, List.set_cons_succ, List.cons_append, List.nil_append, List.replicate, Nat.reduceAdd, Nat.reduceSub, Nat.reduceLeDiff, true_and, and_true, decide_eq_true_eq, reduceIte, Bool.false_eq_true, Bool.not_true, Bool.not_false, decide_true, decide_false]
  rw [s_seq]
  walk_at "w0"
  rw [s_seq]
  try simp -dsimp only [at0, Race.pv, at0, at1, at2, at3, at4, at5, at6, wp_fn, s_nil, s_brk, s_cnt, s_expr, s_ret, s_retN, s_if, s_asn, s_par, s_asg, g_nm, g_nil, g_cons, g_tupT, g_subW, w_v0, w_vS, w_c, w_op, w_un, w_anil, w_acons, w_tup, w_lst, w_call, w_callU, w_isi, w_meth, w_tru, w_bool, w_notS, w_andS, w_orS, w_ifx, w_andV, w_orV, w_notV, w_chain, wp_ok, wp_bad, wp_some, wp_none, wp_liftif, wp_if, asB_b, wp_noex, add_ii, sub_ii, mul_ii, fdiv_ii, mod_ii, pow_ii, neg_i, cmp_ii, lt_ii, le_ii, gt_ii, ge_ii, le_cc, muls_ii, muls_si, ins_cs, iadd_ii, isub_ii, w_onone, w_osome, w_sl, sl_s, sl_t, s_aug, eq_ss, len_s, ix_s, add_ss, str_s, tuple_t, list_t, is_n, not_n, non_n, non_i, non_b, non_s, non_t, non_r, abs_i, max_ii, min_ii, int_i, int_b, gcd_ii, len_t, ix_t, eq_v, ne_v, eq_ii, eq_bb, eq_nn, eq_in, eq_ni, iv_n_list, iv_n_tuple, iv_n_bool, iv_n_str, iv_n_int, okt_n, iv_b_list, iv_b_tuple, iv_b_bool, iv_b_str, iv_b_int, okt_b, iv_i_list, iv_i_tuple, iv_i_bool, iv_i_str, iv_i_int, okt_i, iv_s_list, iv_s_tuple, iv_s_bool, iv_s_str, iv_s_int, okt_s, iv_t_list, iv_t_tuple, iv_t_bool, iv_t_str, iv_t_int, okt_t, iv_r_list, iv_r_tuple, iv_r_bool, iv_r_str, iv_r_int, tru_b, tru_i, tru_n, tru_t, Option.map_some, Option.map_none, List.map_cons, List.map_nil, List.length_cons, List.length_nil, List.set_cons_zero, List.set_cons_succ, List.cons_append, List.nil_append, List.replicate, Nat.reduceAdd, Nat.reduceSub, Nat.reduceLeDiff, true_and, and_true, decide_eq_true_eq, reduceIte, Bool.false_eq_true, Bool.not_true, Bool.not_false, decide_true, decide_false]
  rw [s_seq]
  walk_at "w0"
  rw [if_pos (by decide), fmod_pos (by decide)]
  have v0 := Int.emod_nonneg c (show (19 : Int) ≠ 0 by decide)
  have v1 := Int.emod_lt_of_pos c (show (0 : Int) < 19 by decide)
  have eR : ((((List.map Race.pv R').length + 1 : Nat)) : Int) = (((rc :: R').length : Nat) : Int) := by simp
  have eL : (((List.map Loft.pv L).length : Nat) : Int) = ((L.length : Nat) : Int) := by simp
  try rw [eR]
  try rw [eL]
  refine w_pick v0 (by simp; omega) ?_
  intro x hx
  simp only [List.mem_cons, List.not_mem_nil, or_false] at hx
  rcases hx with rfl | rfl | rfl | rfl | rfl | rfl | rfl | rfl | rfl | rfl | rfl | rfl | rfl | rfl | rfl | rfl | rfl | rfl | rfl
  · exact key _ _ (fun m => isr_slp_bad (L := L) (B := bd :: B') (R := rc :: R') (nr_int _) hB (.inl frm_over)) ⟨_, _, rfl⟩ Gr.one
  · exact key _ _ (fun m => isr_slp_bad (L := L) (B := bd :: B') (R := rc :: R') (fun n e => by cases e) hB (.inr (.inl o8))) ⟨_, _, rfl⟩ Gr.one
  · exact key _ _ (fun m => isr_slp_bad (L := L) (B := bd :: B') (R := rc :: R') (nr_int _) hB (.inr (.inr ⟨_, rfl, rfl⟩))) ⟨_, _, rfl⟩ Gr.one
  · exact key _ _ (fun m => isr_slp_bad (L := L) (B := bd :: B') (R := rc :: R') (nr_int _) hB (.inr (.inr ⟨_, rfl, rfl⟩))) ⟨_, _, rfl⟩ Gr.one
  · exact key _ _ (fun m => isr_stk_bad (L := L) (B := bd :: B') (R := rc :: R') hB (.inr (.inr rfl))) ⟨_, _, rfl⟩ Gr.one
  · exact key _ _ (fun m => isr_stk_bad (L := L) (B := bd :: B') (R := rc :: R') hB (.inl frm_over)) ⟨_, _, rfl⟩ Gr.one
  · exact key _ _ (fun m => isr_stk_bad (L := L) (B := bd :: B') (R := rc :: R') hB (.inr (.inl o9))) ⟨_, _, rfl⟩ Gr.one
  · exact key _ _ (fun m => isr_stk_bad (L := L) (B := bd :: B') (R := rc :: R') hB (.inr (.inr rfl))) ⟨_, _, rfl⟩ Gr.one
  · exact key _ _ (fun m => isr_tra_bad (L := L) (B := bd :: B') (R := rc :: R') hB (.inl o8)) ⟨_, _, rfl⟩ Gr.one
  · exact key _ _ (fun m => isr_tra_bad (L := L) (B := bd :: B') (R := rc :: R') hB (.inr (.inl frm_over))) ⟨_, _, rfl⟩ Gr.one
  · exact key _ _ (fun m => isr_tra_bad (L := L) (B := bd :: B') (R := rc :: R') hB (.inr (.inr fun m => owner_Ann))) ⟨_, _, rfl⟩ Gr.one
  · exact key _ _ (fun m => isr_tra_bad (L := L) (B := bd :: B') (R := rc :: R') hB (.inr (.inr fun m => owner_nine))) ⟨_, _, rfl⟩ Gr.one
  · exact key _ _ (fun m => isr_tra_bad (L := L) (B := bd :: B') (R := rc :: R') hB (.inr (.inr fun m => owner_none))) ⟨_, _, rfl⟩ Gr.one
  · exact key _ _ (fun m => isr_clk_bad (L := L) (B := bd :: B') (R := rc :: R') (dueC_ne (.inl frm_over))) ⟨_, _, rfl⟩ Gr.one
  · exact key _ _ (fun m => isr_clk_bad (L := L) (B := bd :: B') (R := rc :: R') (dueC_ne (.inr (.inl (by unfold frm num; simp; omega))))) ⟨_, _, rfl⟩ Gr.one
  · exact key _ _ (fun m => isr_clk_bad (L := L) (B := bd :: B') (R := rc :: R') (dueC_ne (.inr (.inr (by unfold frm num; simp; omega))))) ⟨_, _, rfl⟩ Gr.one
  · exact key _ _ (fun m => isr_slp_bad (L := L) (B := bd :: B') (R := rc :: R') (nr_int _) hB (.inl rfl)) ⟨_, _, rfl⟩ Gr.one
  · exact key _ _ (fun m => isr_stk_bad (L := L) (B := bd :: B') (R := rc :: R') hB (.inl rfl)) ⟨_, _, rfl⟩ Gr.one
  · exact key _ _ (fun m => isr_tra_bad (L := L) (B := bd :: B') (R := rc :: R') hB (.inr (.inl rfl))) ⟨_, _, rfl⟩ Gr.one
end
theorem eqF_tup {xs : List PV} {y : PV} : eqF (.tup xs) y = none := by cases y <;> rfl
theorem merge_other {m : MH} {b h b2 h2 : Nat} {i i2 : Int} {ts us : List Tl} {c c2 : PV} (k : Bk m b h i c ts) (k2 : Bk m b2 h2 i2 c2 us) (hne : ∀ m, SM.eqV m c c2 = some false) :
    WP (f_Book_merge [.ref b, .ref b2] m) (fun _ _ => False) (fun cc fs m' => cc = "OtherClub" ∧ fs = [] ∧ Gr m m') := by
  unfold f_Book_merge b_Book_merge
  walk_at "w1"
  rw [s_seq]
  try simp -dsimp only [w_fld, fld_r k.ob (i := 1) rfl, w_methB, at0, at1, at2, at3, at4, at5, at6, wp_fn, s_nil, s_brk, s_cnt, s_expr, s_ret, s_retN, s_if, s_asn, s_par, s_asg, g_nm, g_nil, g_cons, g_tupT, g_subW, w_v0, w_vS, w_c, w_op, w_un, w_anil, w_acons, w_tup, w_lst, w_call, w_callU, w_isi, w_meth, w_tru, w_bool, w_notS, w_andS, w_orS, w_ifx, w_andV, w_orV, w_notV, w_chain, wp_ok, wp_bad, wp_some, wp_none, wp_liftif, wp_if, asB_b, wp_noex, add_ii, sub_ii, mul_ii, fdiv_ii, mod_ii, pow_ii, neg_i, cmp_ii, lt_ii, le_ii, gt_ii, ge_ii, le_cc, muls_ii, muls_si, ins_cs, iadd_ii, isub_ii, w_onone, w_osome, w_sl, sl_s, sl_t, s_aug, eq_ss, len_s, ix_s, add_ss, str_s, tuple_t, list_t, is_n, not_n, non_n, non_i, non_b, non_s, non_t, non_r, abs_i, max_ii, min_ii, int_i, int_b, gcd_ii, len_t, ix_t, eq_v, ne_v, eq_ii, eq_bb, eq_nn, eq_in, eq_ni, iv_n_list, iv_n_tuple, iv_n_bool, iv_n_str, iv_n_int, okt_n, iv_b_list, iv_b_tuple, iv_b_bool, iv_b_str, iv_b_int, okt_b, iv_i_list, iv_i_tuple, iv_i_bool, iv_i_str, iv_i_int, okt_i, iv_s_list, iv_s_tuple, iv_s_bool, iv_s_str, iv_s_int, okt_s, iv_t_list, iv_t_tuple, iv_t_bool, iv_t_str, iv_t_int, okt_t, iv_r_list, iv_r_tuple, iv_r_bool, iv_r_str, iv_r_int, tru_b, tru_i, tru_n, tru_t, Option.map_some, Option.map_none, List.map_cons, List.map_nil, List.length_cons, List.length_nil, List.set_cons_zero, List.set_cons_succ, List.cons_append, List.nil_append, List.replicate, Nat.reduceAdd, Nat.reduceSub, Nat.reduceLeDiff, true_and, and_true, decide_eq_true_eq, reduceIte, Bool.false_eq_true, Bool.not_true, Bool.not_false, decide_true, decide_false]
  refine ⟨isIns_r k2.ob, (bclub_ok k2).mono ?_⟩
  rintro _ m ⟨rfl, rfl⟩
  try simp -dsimp only [hne, at0, at1, at2, at3, at4, at5, at6, wp_fn, s_nil, s_brk, s_cnt, s_expr, s_ret, s_retN, s_if, s_asn, s_par, s_asg, g_nm, g_nil, g_cons, g_tupT, g_subW, w_v0, w_vS, w_c, w_op, w_un, w_anil, w_acons, w_tup, w_lst, w_call, w_callU, w_isi, w_meth, w_tru, w_bool, w_notS, w_andS, w_orS, w_ifx, w_andV, w_orV, w_notV, w_chain, wp_ok, wp_bad, wp_some, wp_none, wp_liftif, wp_if, asB_b, wp_noex, add_ii, sub_ii, mul_ii, fdiv_ii, mod_ii, pow_ii, neg_i, cmp_ii, lt_ii, le_ii, gt_ii, ge_ii, le_cc, muls_ii, muls_si, ins_cs, iadd_ii, isub_ii, w_onone, w_osome, w_sl, sl_s, sl_t, s_aug, eq_ss, len_s, ix_s, add_ss, str_s, tuple_t, list_t, is_n, not_n, non_n, non_i, non_b, non_s, non_t, non_r, abs_i, max_ii, min_ii, int_i, int_b, gcd_ii, len_t, ix_t, eq_v, ne_v, eq_ii, eq_bb, eq_nn, eq_in, eq_ni, iv_n_list, iv_n_tuple, iv_n_bool, iv_n_str, iv_n_int, okt_n, iv_b_list, iv_b_tuple, iv_b_bool, iv_b_str, iv_b_int, okt_b, iv_i_list, iv_i_tuple, iv_i_bool, iv_i_str, iv_i_int, okt_i, iv_s_list, iv_s_tuple, iv_s_bool, iv_s_str, iv_s_int, okt_s, iv_t_list, iv_t_tuple, iv_t_bool, iv_t_str, iv_t_int, okt_t, iv_r_list, iv_r_tuple, iv_r_bool, iv_r_str, iv_r_int, tru_b, tru_i, tru_n, tru_t, Option.map_some, Option.map_none, List.map_cons, List.map_nil, List.length_cons, List.length_nil, List.set_cons_zero, List.set_cons_succ, List.cons_append, List.nil_append, List.replicate, Nat.reduceAdd, Nat.reduceSub, Nat.reduceLeDiff, true_and, and_true, decide_eq_true_eq, reduceIte, Bool.false_eq_true, Bool.not_true, Bool.not_false, decide_true, decide_false]
  rw [s_raise0]
  exact ⟨rfl, rfl, Gr.refl⟩
section
variable {m : MH} {b h b2 h2 : Nat} {i i2 : Int} {ts us : List Tl} {L : List Loft} {B : List Bird} {R : List Race}
/-- up to the walk over the other's tellings -/
abbrev mrest : SS := xSeq (xIf (tBool (sOp gtv (sOp addv (sCall lenv (aCons (sFldE 2 (sVar 0)) aNil)) (sCall lenv (aCons (sVar 6) aNil))) (sC (.int 80)))) (xRaise "TooMany" (aCons (sC (.int 80)) aNil)) xNil) (xSeq (xExpr (sMeth isLst extendv (sFldE 2 (sVar 0)) (aCons (sVar 6) aNil))) (xRet (sCall lenv (aCons (sVar 6) aNil))))
theorem merge_walk {D : ED} (hC : ClubG L B R) (k : Bk m b h i (clubPV L B R) ts) (k2 : Bk m b2 h2 i2 (clubPV L B R) us) (nd : (ts.map Tl.key).Nodup) (hl : ts.length ≤ 80) (h1 : m[1]? = some (.tbl tabP lamQ))
    (next : ∀ (dn fn tn : Nat) (m3 : MH), dn < fn → fn < tn → m.length ≤ dn → m3[dn]? = some (.dct (kvsT ts)) → m3[fn]? = some (.lst []) → m3[tn]? = some (.lst ((srt us).map Tl.pv)) → Gr m m3 → ∃ I : Nat → SM.Loc → MH → Prop,
      I 0 [some (.ref b), some (.ref b2), some (.ref dn), none, none, none, some (.ref fn)] m3 ∧ (∀ j l m, I j l m → m[tn]? = some (.lst ((srt us).map Tl.pv))) ∧
      (∀ j t l m, (srt us)[j]? = some t → I j l m → WG (gTupS 3 (gConsS (gNm 3) (gConsS (gNm 4) (gConsS (gNm 5) gNilS))) t.pv l m) (fun l1 m1 => WS (Book_merge_l1 l1 m1) ⟨I (j + 1), D.rt, fun l m => WS (mrest l m) D, I (j + 1), D.ex⟩)) ∧
      (∀ l m, I us.length l m → WS (mrest l m) D)) :
    WS (b_Book_merge [some (.ref b), some (.ref b2), none, none, none, none, none] m) D := by
  have hbh := k.ne
  obtain ⟨cd, hcd⟩ := club_dd hC
  have ec : ∀ m, SM.eqV m (clubPV L B R) (clubPV L B R) = some true := fun m => eq_dd hcd
  have hm := (List.getElem?_eq_some_iff.mp k.hd).1
  unfold b_Book_merge
  rw [s_seq]
  try simp -dsimp only [w_fld, fld_r k.ob (i := 1) rfl, w_methB, at0, at1, at2, at3, at4, at5, at6, wp_fn, s_nil, s_brk, s_cnt, s_expr, s_ret, s_retN, s_if, s_asn, s_par, s_asg, g_nm, g_nil, g_cons, g_tupT, g_subW, w_v0, w_vS, w_c, w_op, w_un, w_anil, w_acons, w_tup, w_lst, w_call, w_callU, w_isi, w_meth, w_tru, w_bool, w_notS, w_andS, w_orS, w_ifx, w_andV, w_orV, w_notV, w_chain, wp_ok, wp_bad, wp_some, wp_none, wp_liftif, wp_if, asB_b, wp_noex, add_ii, sub_ii, mul_ii, fdiv_ii, mod_ii, pow_ii, neg_i, cmp_ii, lt_ii, le_ii, gt_ii, ge_ii, le_cc, muls_ii, muls_si, ins_cs, iadd_ii, isub_ii, w_onone, w_osome, w_sl, sl_s, sl_t, s_aug, eq_ss, len_s, ix_s, add_ss, str_s, tuple_t, list_t, is_n, not_n, non_n, non_i, non_b, non_s, non_t, non_r, abs_i, max_ii, min_ii, int_i, int_b, gcd_ii, len_t, ix_t, eq_v, ne_v, eq_ii, eq_bb, eq_nn, eq_in, eq_ni, iv_n_list, iv_n_tuple, iv_n_bool, iv_n_str, iv_n_int, okt_n, iv_b_list, iv_b_tuple, iv_b_bool, iv_b_str, iv_b_int, okt_b, iv_i_list, iv_i_tuple, iv_i_bool, iv_i_str, iv_i_int, okt_i, iv_s_list, iv_s_tuple, iv_s_bool, iv_s_str, iv_s_int, okt_s, iv_t_list, iv_t_tuple, iv_t_bool, iv_t_str, iv_t_int, okt_t, iv_r_list, iv_r_tuple, iv_r_bool, iv_r_str, iv_r_int, tru_b, tru_i, tru_n, tru_t, Option.map_some, Option.map_none, List.map_cons, List.map_nil, List.length_cons, List.length_nil, List.set_cons_zero, List.set_cons_succ, List.cons_append, List.nil_append, List.replicate, Nat.reduceAdd, Nat.reduceSub, Nat.reduceLeDiff, true_and, and_true, decide_eq_true_eq, reduceIte, Bool.false_eq_true, Bool.not_true, Bool.not_false, decide_true, decide_false]
  refine ⟨isIns_r k2.ob, (bclub_ok k2).mono ?_⟩
  rintro _ m ⟨rfl, rfl⟩
  try simp -dsimp only [ec, at0, at1, at2, at3, at4, at5, at6, wp_fn, s_nil, s_brk, s_cnt, s_expr, s_ret, s_retN, s_if, s_asn, s_par, s_asg, g_nm, g_nil, g_cons, g_tupT, g_subW, w_v0, w_vS, w_c, w_op, w_un, w_anil, w_acons, w_tup, w_lst, w_call, w_callU, w_isi, w_meth, w_tru, w_bool, w_notS, w_andS, w_orS, w_ifx, w_andV, w_orV, w_notV, w_chain, wp_ok, wp_bad, wp_some, wp_none, wp_liftif, wp_if, asB_b, wp_noex, add_ii, sub_ii, mul_ii, fdiv_ii, mod_ii, pow_ii, neg_i, cmp_ii, lt_ii, le_ii, gt_ii, ge_ii, le_cc, muls_ii, muls_si, ins_cs, iadd_ii, isub_ii, w_onone, w_osome, w_sl, sl_s, sl_t, s_aug, eq_ss, len_s, ix_s, add_ss, str_s, tuple_t, list_t, is_n, not_n, non_n, non_i, non_b, non_s, non_t, non_r, abs_i, max_ii, min_ii, int_i, int_b, gcd_ii, len_t, ix_t, eq_v, ne_v, eq_ii, eq_bb, eq_nn, eq_in, eq_ni, iv_n_list, iv_n_tuple, iv_n_bool, iv_n_str, iv_n_int, okt_n, iv_b_list, iv_b_tuple, iv_b_bool, iv_b_str, iv_b_int, okt_b, iv_i_list, iv_i_tuple, iv_i_bool, iv_i_str, iv_i_int, okt_i, iv_s_list, iv_s_tuple, iv_s_bool, iv_s_str, iv_s_int, okt_s, iv_t_list, iv_t_tuple, iv_t_bool, iv_t_str, iv_t_int, okt_t, iv_r_list, iv_r_tuple, iv_r_bool, iv_r_str, iv_r_int, tru_b, tru_i, tru_n, tru_t, Option.map_some, Option.map_none, List.map_cons, List.map_nil, List.length_cons, List.length_nil, List.set_cons_zero, List.set_cons_succ, List.cons_append, List.nil_append, List.replicate, Nat.reduceAdd, Nat.reduceSub, Nat.reduceLeDiff, true_and, and_true, decide_eq_true_eq, reduceIte, Bool.false_eq_true, Bool.not_true, Bool.not_false, decide_true, decide_false]
  rw [s_seq]
  walk_at "w0"
  refine w_dctT ?_
  try simp -dsimp only [w_fld, fld_r k.ob (i := 2) rfl, at0, at1, at2, at3, at4, at5, at6, wp_fn, s_nil, s_brk, s_cnt, s_expr, s_ret, s_retN, s_if, s_asn, s_par, s_asg, g_nm, g_nil, g_cons, g_tupT, g_subW, w_v0, w_vS, w_c, w_op, w_un, w_anil, w_acons, w_tup, w_lst, w_call, w_callU, w_isi, w_meth, w_tru, w_bool, w_notS, w_andS, w_orS, w_ifx, w_andV, w_orV, w_notV, w_chain, wp_ok, wp_bad, wp_some, wp_none, wp_liftif, wp_if, asB_b, wp_noex, add_ii, sub_ii, mul_ii, fdiv_ii, mod_ii, pow_ii, neg_i, cmp_ii, lt_ii, le_ii, gt_ii, ge_ii, le_cc, muls_ii, muls_si, ins_cs, iadd_ii, isub_ii, w_onone, w_osome, w_sl, sl_s, sl_t, s_aug, eq_ss, len_s, ix_s, add_ss, str_s, tuple_t, list_t, is_n, not_n, non_n, non_i, non_b, non_s, non_t, non_r, abs_i, max_ii, min_ii, int_i, int_b, gcd_ii, len_t, ix_t, eq_v, ne_v, eq_ii, eq_bb, eq_nn, eq_in, eq_ni, iv_n_list, iv_n_tuple, iv_n_bool, iv_n_str, iv_n_int, okt_n, iv_b_list, iv_b_tuple, iv_b_bool, iv_b_str, iv_b_int, okt_b, iv_i_list, iv_i_tuple, iv_i_bool, iv_i_str, iv_i_int, okt_i, iv_s_list, iv_s_tuple, iv_s_bool, iv_s_str, iv_s_int, okt_s, iv_t_list, iv_t_tuple, iv_t_bool, iv_t_str, iv_t_int, okt_t, iv_r_list, iv_r_tuple, iv_r_bool, iv_r_str, iv_r_int, tru_b, tru_i, tru_n, tru_t, Option.map_some, Option.map_none, List.map_cons, List.map_nil, List.length_cons, List.length_nil, List.set_cons_zero, List.set_cons_succ, List.cons_append, List.nil_append, List.replicate, Nat.reduceAdd, Nat.reduceSub, Nat.reduceLeDiff, true_and, and_true, decide_eq_true_eq, reduceIte, Bool.false_eq_true, Bool.not_true, Bool.not_false, decide_true, decide_false]
  refine ⟨h, ts, rfl, k.hd, nd, by omega, ?_⟩
  walk_at "w0"
  rw [s_seq]
  walk_at "w0"
  have PD := get_old (o := MO.lst []) (get_new (m := m) (o := MO.dct (kvsT ts)))
  have PF := get_new (m := m ++ [MO.dct (kvsT ts)]) (o := MO.lst [])
  have G1 := (Gr.one (m := m) (o := MO.dct (kvsT ts))).push (MO.lst [])
  have hfn : m.length < (m ++ [MO.dct (kvsT ts)]).length := by simp
  generalize (m ++ [MO.dct (kvsT ts)]) ++ [MO.lst []] = m2 at *
  generalize (m ++ [MO.dct (kvsT ts)]).length = fn at *
  obtain ⟨dn, edn⟩ : ∃ dn, dn = m.length := ⟨_, rfl⟩
  rw [← edn] at PD hfn ⊢
  rw [s_seq]
  refine s_forLW ?_
  try simp -dsimp only [w_methB, at0, at1, at2, at3, at4, at5, at6, wp_fn, s_nil, s_brk, s_cnt, s_expr, s_ret, s_retN, s_if, s_asn, s_par, s_asg, g_nm, g_nil, g_cons, g_tupT, g_subW, w_v0, w_vS, w_c, w_op, w_un, w_anil, w_acons, w_tup, w_lst, w_call, w_callU, w_isi, w_meth, w_tru, w_bool, w_notS, w_andS, w_orS, w_ifx, w_andV, w_orV, w_notV, w_chain, wp_ok, wp_bad, wp_some, wp_none, wp_liftif, wp_if, asB_b, wp_noex, add_ii, sub_ii, mul_ii, fdiv_ii, mod_ii, pow_ii, neg_i, cmp_ii, lt_ii, le_ii, gt_ii, ge_ii, le_cc, muls_ii, muls_si, ins_cs, iadd_ii, isub_ii, w_onone, w_osome, w_sl, sl_s, sl_t, s_aug, eq_ss, len_s, ix_s, add_ss, str_s, tuple_t, list_t, is_n, not_n, non_n, non_i, non_b, non_s, non_t, non_r, abs_i, max_ii, min_ii, int_i, int_b, gcd_ii, len_t, ix_t, eq_v, ne_v, eq_ii, eq_bb, eq_nn, eq_in, eq_ni, iv_n_list, iv_n_tuple, iv_n_bool, iv_n_str, iv_n_int, okt_n, iv_b_list, iv_b_tuple, iv_b_bool, iv_b_str, iv_b_int, okt_b, iv_i_list, iv_i_tuple, iv_i_bool, iv_i_str, iv_i_int, okt_i, iv_s_list, iv_s_tuple, iv_s_bool, iv_s_str, iv_s_int, okt_s, iv_t_list, iv_t_tuple, iv_t_bool, iv_t_str, iv_t_int, okt_t, iv_r_list, iv_r_tuple, iv_r_bool, iv_r_str, iv_r_int, tru_b, tru_i, tru_n, tru_t, Option.map_some, Option.map_none, List.map_cons, List.map_nil, List.length_cons, List.length_nil, List.set_cons_zero, List.set_cons_succ, List.cons_append, List.nil_append, List.replicate, Nat.reduceAdd, Nat.reduceSub, Nat.reduceLeDiff, true_and, and_true, decide_eq_true_eq, reduceIte, Bool.false_eq_true, Bool.not_true, Bool.not_false, decide_true, decide_false]
  refine ⟨isIns_r (k2.gr G1).ob, (tellings_ok (k2.gr G1) (G1.get _ _ h1)).mono ?_⟩
  rintro _ _ ⟨rfl, rfl⟩
  have PD3 := get_old (o := MO.lst ((srt us).map Tl.pv)) PD
  have PF3 := get_old (o := MO.lst ((srt us).map Tl.pv)) PF
  have PT3 := get_new (m := m2) (o := MO.lst ((srt us).map Tl.pv))
  have G3 := G1.push (MO.lst ((srt us).map Tl.pv))
  have hft : fn < m2.length := (List.getElem?_eq_some_iff.mp PF).1
  generalize m2 ++ [MO.lst ((srt us).map Tl.pv)] = m3 at *
  generalize m2.length = tn at *
  have hul := srt_len (ts := us)
  obtain ⟨I, i0, i1, i2, i3⟩ := next dn fn tn m3 hfn hft (by omega) PD3 PF3 PT3 G3
  refine ⟨tn, _, rfl, seq_of_lst PT3, I, i0, fun j l m hI => seq_of_lst (i1 j l m hI), fun j x l m hx hI => ?_, fun l m hI => ?_⟩
  · rw [List.getElem?_map] at hx
    cases es : (srt us)[j]? with
    | none => rw [es] at hx; cases hx
    | some t =>
      rw [es] at hx
      cases hx
      exact i2 j t l m es hI
  · rw [List.length_map, hul] at hI
    exact i3 l m hI
theorem merge_many (hC : ClubG L B R) (k : Bk m b h i (clubPV L B R) ts) (k2 : Bk m b2 h2 i2 (clubPV L B R) us) (nd : (ts.map Tl.key).Nodup) (hl : ts.length ≤ 80) (hu : us.length ≤ 80) (h1 : m[1]? = some (.tbl tabP lamQ))
    (dj : ∀ u ∈ us, u.key ∉ ts.map Tl.key) (big : 80 < ts.length + us.length) :
    WP (f_Book_merge [.ref b, .ref b2] m) (fun _ _ => False) (fun cc fs m' => cc = "TooMany" ∧ fs = [.int 80] ∧ Gr m m') := by
  unfold f_Book_merge
  walk_at "w1"
  refine merge_walk hC k k2 nd hl h1 fun dn fn tn m3 d1 d2 d3 PD3 PF3 PT3 G3 => ?_
  have hul := srt_len (ts := us)
  refine ⟨fun j l m' => ∃ x3 x4 x5 : Option PV, l = [some (.ref b), some (.ref b2), some (.ref dn), x3, x4, x5, some (.ref fn)] ∧ m'[dn]? = some (.dct (kvsT ts)) ∧ m'[fn]? = some (.lst (((srt us).take j).map Tl.pv)) ∧ m'[tn]? = some (.lst ((srt us).map Tl.pv)) ∧ Gr m m', ⟨_, _, _, rfl, PD3, PF3, PT3, G3⟩, ?_, ?_, ?_⟩
  · rintro j l m' ⟨x3, x4, x5, rfl, PD, PF, PT, G⟩
    exact PT
  · clear PD3 PF3 PT3 G3
    rintro j t l m' es ⟨x3, x4, x5, rfl, PD, PF, PT, G⟩
    have et : (srt us).take (j + 1) = (srt us).take j ++ [t] := by rw [List.take_succ, es]; rfl
    have htu : t ∈ us := srt_mem.mp (List.mem_of_getElem? es)
    have hlf : (((srt us).take j).map Tl.pv).length ≤ 80 := by
      rw [List.length_map, List.length_take]; omega
    have c := dj t htu
    unfold Book_merge_l1 Tl.pv at *
    walk_at "w0"
    refine w_ninT ?_
    walk_at "w0"
    refine ⟨t.st, t.src, dn, _, rfl, rfl, PD, ?_⟩
    rw [getT_none fun u hu z => c (List.mem_map.mpr ⟨u, hu, z⟩)]
    walk_at "w0"
    refine ⟨isLst_r PF, ?_⟩
    rw [append_r PF (by omega)]
    walk_at "w0"
    refine ⟨_, _, _, rfl, by rw [List.getElem?_set_ne (by omega)]; exact PD, (getD_set_eq PF).trans ?_, by rw [List.getElem?_set_ne (by omega)]; exact PT, G.set (by omega)⟩
    rw [et, List.map_append]
    rfl
  · clear PD3 PF3 PT3 G3
    rintro l m' ⟨x3, x4, x5, rfl, PD, PF, PT, G⟩
    rw [← hul, List.take_length] at PF
    have k' := k.gr G
    unfold mrest
    rw [s_seq]
    try simp -dsimp only [w_fld, fld_r k'.ob (i := 2) rfl, at0, at1, at2, at3, at4, at5, at6, wp_fn, s_nil, s_brk, s_cnt, s_expr, s_ret, s_retN, s_if, s_asn, s_par, s_asg, g_nm, g_nil, g_cons, g_tupT, g_subW, w_v0, w_vS, w_c, w_op, w_un, w_anil, w_acons, w_tup, w_lst, w_call, w_callU, w_isi, w_meth, w_tru, w_bool, w_notS, w_andS, w_orS, w_ifx, w_andV, w_orV, w_notV, w_chain, wp_ok, wp_bad, wp_some, wp_none, wp_liftif, wp_if, asB_b, wp_noex, add_ii, sub_ii, mul_ii, fdiv_ii, mod_ii, pow_ii, neg_i, cmp_ii, lt_ii, le_ii, gt_ii, ge_ii, le_cc, muls_ii, muls_si, ins_cs, iadd_ii, isub_ii, w_onone, w_osome, w_sl, sl_s, sl_t, s_aug, eq_ss, len_s, ix_s, add_ss, str_s, tuple_t, list_t, is_n, not_n, non_n, non_i, non_b, non_s, non_t, non_r, abs_i, max_ii, min_ii, int_i, int_b, gcd_ii, len_t, ix_t, eq_v, ne_v, eq_ii, eq_bb, eq_nn, eq_in, eq_ni, iv_n_list, iv_n_tuple, iv_n_bool, iv_n_str, iv_n_int, okt_n, iv_b_list, iv_b_tuple, iv_b_bool, iv_b_str, iv_b_int, okt_b, iv_i_list, iv_i_tuple, iv_i_bool, iv_i_str, iv_i_int, okt_i, iv_s_list, iv_s_tuple, iv_s_bool, iv_s_str, iv_s_int, okt_s, iv_t_list, iv_t_tuple, iv_t_bool, iv_t_str, iv_t_int, okt_t, iv_r_list, iv_r_tuple, iv_r_bool, iv_r_str, iv_r_int, tru_b, tru_i, tru_n, tru_t, Option.map_some, Option.map_none, List.map_cons, List.map_nil, List.length_cons, List.length_nil, List.set_cons_zero, List.set_cons_succ, List.cons_append, List.nil_append, List.replicate, Nat.reduceAdd, Nat.reduceSub, Nat.reduceLeDiff, true_and, and_true, decide_eq_true_eq, reduceIte, Bool.false_eq_true, Bool.not_true, Bool.not_false, decide_true, decide_false]
    rw [len_r (seq_of_lst k'.hd), List.length_map]
    walk_at "w0"
    rw [len_r (seq_of_lst PF), List.length_map, hul]
    walk_at "w0"
    rw [if_pos (by omega)]
    walk_at "w0"
    rw [s_raise]
    walk_at "w0"
    exact G
theorem merge_clash (hC : ClubG L B R) (k : Bk m b h i (clubPV L B R) ts) (k2 : Bk m b2 h2 i2 (clubPV L B R) us) (nd : (ts.map Tl.key).Nodup) (hl : ts.length ≤ 80) (hu : us.length ≤ 80) (h1 : m[1]? = some (.tbl tabP lamQ))
    (ne : ∀ t ∈ ts, ∀ u ∈ us, ∀ m, SM.eqV m t.e.pv u.e.pv = some false) (some_ : ∃ u ∈ us, u.key ∈ ts.map Tl.key) :
    WP (f_Book_merge [.ref b, .ref b2] m) (fun _ _ => False) (fun cc fs m' => cc = "OtherClub" ∧ fs = [] ∧ Gr m m') := by
  unfold f_Book_merge
  walk_at "w1"
  refine merge_walk hC k k2 nd hl h1 fun dn fn tn m3 d1 d2 d3 PD3 PF3 PT3 G3 => ?_
  have hul := srt_len (ts := us)
  refine ⟨fun j l m' => ∃ x3 x4 x5 : Option PV, l = [some (.ref b), some (.ref b2), some (.ref dn), x3, x4, x5, some (.ref fn)] ∧ m'[dn]? = some (.dct (kvsT ts)) ∧ m'[fn]? = some (.lst (((srt us).take j).map Tl.pv)) ∧ m'[tn]? = some (.lst ((srt us).map Tl.pv)) ∧ Gr m m' ∧ ∀ u ∈ (srt us).take j, u.key ∉ ts.map Tl.key, ⟨_, _, _, rfl, PD3, PF3, PT3, G3, fun u h => by simp at h⟩, ?_, ?_, ?_⟩
  · rintro j l m' ⟨x3, x4, x5, rfl, PD, PF, PT, G, no⟩
    exact PT
  · clear PD3 PF3 PT3 G3
    rintro j t l m' es ⟨x3, x4, x5, rfl, PD, PF, PT, G, no⟩
    have et : (srt us).take (j + 1) = (srt us).take j ++ [t] := by rw [List.take_succ, es]; rfl
    have htu : t ∈ us := srt_mem.mp (List.mem_of_getElem? es)
    have hlf : (((srt us).take j).map Tl.pv).length ≤ 80 := by
      rw [List.length_map, List.length_take]; omega
    unfold Book_merge_l1 Tl.pv at *
    walk_at "w0"
    refine w_ninT ?_
    walk_at "w0"
    refine ⟨t.st, t.src, dn, _, rfl, rfl, PD, ?_⟩
    by_cases c : t.key ∈ ts.map Tl.key
    · obtain ⟨u, hu, eu⟩ := List.mem_map.mp c
      have e1 : u.st = t.st ∧ u.src = t.src := by
        unfold Tl.key at eu
        injection eu with a1 a2
        injection a2 with a2 a3
        exact ⟨a1, a2⟩
      have gs := getT_some nd hu
      rw [e1.1, e1.2] at gs
      rw [gs]
      try simp -dsimp only [dget_r PD gs, ne u hu t htu, at0, at1, at2, at3, at4, at5, at6, wp_fn, s_nil, s_brk, s_cnt, s_expr, s_ret, s_retN, s_if, s_asn, s_par, s_asg, g_nm, g_nil, g_cons, g_tupT, g_subW, w_v0, w_vS, w_c, w_op, w_un, w_anil, w_acons, w_tup, w_lst, w_call, w_callU, w_isi, w_meth, w_tru, w_bool, w_notS, w_andS, w_orS, w_ifx, w_andV, w_orV, w_notV, w_chain, wp_ok, wp_bad, wp_some, wp_none, wp_liftif, wp_if, asB_b, wp_noex, add_ii, sub_ii, mul_ii, fdiv_ii, mod_ii, pow_ii, neg_i, cmp_ii, lt_ii, le_ii, gt_ii, ge_ii, le_cc, muls_ii, muls_si, ins_cs, iadd_ii, isub_ii, w_onone, w_osome, w_sl, sl_s, sl_t, s_aug, eq_ss, len_s, ix_s, add_ss, str_s, tuple_t, list_t, is_n, not_n, non_n, non_i, non_b, non_s, non_t, non_r, abs_i, max_ii, min_ii, int_i, int_b, gcd_ii, len_t, ix_t, eq_v, ne_v, eq_ii, eq_bb, eq_nn, eq_in, eq_ni, iv_n_list, iv_n_tuple, iv_n_bool, iv_n_str, iv_n_int, okt_n, iv_b_list, iv_b_tuple, iv_b_bool, iv_b_str, iv_b_int, okt_b, iv_i_list, iv_i_tuple, iv_i_bool, iv_i_str, iv_i_int, okt_i, iv_s_list, iv_s_tuple, iv_s_bool, iv_s_str, iv_s_int, okt_s, iv_t_list, iv_t_tuple, iv_t_bool, iv_t_str, iv_t_int, okt_t, iv_r_list, iv_r_tuple, iv_r_bool, iv_r_str, iv_r_int, tru_b, tru_i, tru_n, tru_t, Option.map_some, Option.map_none, List.map_cons, List.map_nil, List.length_cons, List.length_nil, List.set_cons_zero, List.set_cons_succ, List.cons_append, List.nil_append, List.replicate, Nat.reduceAdd, Nat.reduceSub, Nat.reduceLeDiff, true_and, and_true, decide_eq_true_eq, reduceIte, Bool.false_eq_true, Bool.not_true, Bool.not_false, decide_true, decide_false]
      rw [s_raise0]
      exact ⟨rfl, rfl, G⟩
    rw [getT_none fun u hu z => c (List.mem_map.mpr ⟨u, hu, z⟩)]
    walk_at "w0"
    refine ⟨isLst_r PF, ?_⟩
    rw [append_r PF (by omega)]
    walk_at "w0"
    refine ⟨_, _, _, rfl, by rw [List.getElem?_set_ne (by omega)]; exact PD, (getD_set_eq PF).trans ?_, by rw [List.getElem?_set_ne (by omega)]; exact PT, G.set (by omega), fun u hu => ?_⟩
    · rw [et, List.map_append]
      rfl
    · rw [et] at hu
      rcases List.mem_append.mp hu with q | q
      · exact no u q
      · rw [List.mem_singleton.mp q]
        exact c
  · rintro l m' ⟨x3, x4, x5, rfl, PD, PF, PT, G, no⟩
    obtain ⟨u, hu, eu⟩ := some_
    rw [← hul, List.take_length] at no
    exact absurd eu (no u (srt_mem.mpr hu))
end
section
variable {m : MH} {b h b2 h2 : Nat} {i i2 : Int} {ts us : List Tl} {c c2 : PV}
theorem merged_other (k : Bk m b h i c ts) (hm : WP (f_Book_merge [.ref b, .ref b2] m) (fun _ _ => False) (fun cc fs m' => cc = "OtherClub" ∧ fs = [] ∧ Gr m m')) :
    WP (f_law_merged [.ref b, .ref b2] m) (fun y m' => y = .str [111, 116, 104, 101, 114] ∧ Gr m m') NoE := by
  unfold f_law_merged b_law_merged
  walk_at "w1"
  rw [s_seq]
  refine s_tryCF ?_
  try simp -dsimp only [w_methX, at0, at1, at2, at3, at4, at5, at6, wp_fn, s_nil, s_brk, s_cnt, s_expr, s_ret, s_retN, s_if, s_asn, s_par, s_asg, g_nm, g_nil, g_cons, g_tupT, g_subW, w_v0, w_vS, w_c, w_op, w_un, w_anil, w_acons, w_tup, w_lst, w_call, w_callU, w_isi, w_meth, w_tru, w_bool, w_notS, w_andS, w_orS, w_ifx, w_andV, w_orV, w_notV, w_chain, wp_ok, wp_bad, wp_some, wp_none, wp_liftif, wp_if, asB_b, wp_noex, add_ii, sub_ii, mul_ii, fdiv_ii, mod_ii, pow_ii, neg_i, cmp_ii, lt_ii, le_ii, gt_ii, ge_ii, le_cc, muls_ii, muls_si, ins_cs, iadd_ii, isub_ii, w_onone, w_osome, w_sl, sl_s, sl_t, s_aug, eq_ss, len_s, ix_s, add_ss, str_s, tuple_t, list_t, is_n, not_n, non_n, non_i, non_b, non_s, non_t, non_r, abs_i, max_ii, min_ii, int_i, int_b, gcd_ii, len_t, ix_t, eq_v, ne_v, eq_ii, eq_bb, eq_nn, eq_in, eq_ni, iv_n_list, iv_n_tuple, iv_n_bool, iv_n_str, iv_n_int, okt_n, iv_b_list, iv_b_tuple, iv_b_bool, iv_b_str, iv_b_int, okt_b, iv_i_list, iv_i_tuple, iv_i_bool, iv_i_str, iv_i_int, okt_i, iv_s_list, iv_s_tuple, iv_s_bool, iv_s_str, iv_s_int, okt_s, iv_t_list, iv_t_tuple, iv_t_bool, iv_t_str, iv_t_int, okt_t, iv_r_list, iv_r_tuple, iv_r_bool, iv_r_str, iv_r_int, tru_b, tru_i, tru_n, tru_t, Option.map_some, Option.map_none, List.map_cons, List.map_nil, List.length_cons, List.length_nil, List.set_cons_zero, List.set_cons_succ, List.cons_append, List.nil_append, List.replicate, Nat.reduceAdd, Nat.reduceSub, Nat.reduceLeDiff, true_and, and_true, decide_eq_true_eq, reduceIte, Bool.false_eq_true, Bool.not_true, Bool.not_false, decide_true, decide_false]
  refine ⟨isIns_r k.ob, ?_⟩
  refine wp_mono2 hm (fun _ _ h => h.elim) ?_
  rintro cc fs m' ⟨rfl, rfl, G⟩
  exact ⟨by simp, .inl ⟨rfl, rfl, rfl, G⟩⟩
theorem merged_many (k : Bk m b h i c ts) (hm : WP (f_Book_merge [.ref b, .ref b2] m) (fun _ _ => False) (fun cc fs m' => cc = "TooMany" ∧ fs = [.int 80] ∧ Gr m m')) :
    WP (f_law_merged [.ref b, .ref b2] m) (fun y m' => y = .int 80 ∧ Gr m m') NoE := by
  unfold f_law_merged b_law_merged
  walk_at "w1"
  rw [s_seq]
  refine s_tryCF ?_
  try simp -dsimp only [w_methX, at0, at1, at2, at3, at4, at5, at6, wp_fn, s_nil, s_brk, s_cnt, s_expr, s_ret, s_retN, s_if, s_asn, s_par, s_asg, g_nm, g_nil, g_cons, g_tupT, g_subW, w_v0, w_vS, w_c, w_op, w_un, w_anil, w_acons, w_tup, w_lst, w_call, w_callU, w_isi, w_meth, w_tru, w_bool, w_notS, w_andS, w_orS, w_ifx, w_andV, w_orV, w_notV, w_chain, wp_ok, wp_bad, wp_some, wp_none, wp_liftif, wp_if, asB_b, wp_noex, add_ii, sub_ii, mul_ii, fdiv_ii, mod_ii, pow_ii, neg_i, cmp_ii, lt_ii, le_ii, gt_ii, ge_ii, le_cc, muls_ii, muls_si, ins_cs, iadd_ii, isub_ii, w_onone, w_osome, w_sl, sl_s, sl_t, s_aug, eq_ss, len_s, ix_s, add_ss, str_s, tuple_t, list_t, is_n, not_n, non_n, non_i, non_b, non_s, non_t, non_r, abs_i, max_ii, min_ii, int_i, int_b, gcd_ii, len_t, ix_t, eq_v, ne_v, eq_ii, eq_bb, eq_nn, eq_in, eq_ni, iv_n_list, iv_n_tuple, iv_n_bool, iv_n_str, iv_n_int, okt_n, iv_b_list, iv_b_tuple, iv_b_bool, iv_b_str, iv_b_int, okt_b, iv_i_list, iv_i_tuple, iv_i_bool, iv_i_str, iv_i_int, okt_i, iv_s_list, iv_s_tuple, iv_s_bool, iv_s_str, iv_s_int, okt_s, iv_t_list, iv_t_tuple, iv_t_bool, iv_t_str, iv_t_int, okt_t, iv_r_list, iv_r_tuple, iv_r_bool, iv_r_str, iv_r_int, tru_b, tru_i, tru_n, tru_t, Option.map_some, Option.map_none, List.map_cons, List.map_nil, List.length_cons, List.length_nil, List.set_cons_zero, List.set_cons_succ, List.cons_append, List.nil_append, List.replicate, Nat.reduceAdd, Nat.reduceSub, Nat.reduceLeDiff, true_and, and_true, decide_eq_true_eq, reduceIte, Bool.false_eq_true, Bool.not_true, Bool.not_false, decide_true, decide_false]
  refine ⟨isIns_r k.ob, ?_⟩
  refine wp_mono2 hm (fun _ _ h => h.elim) ?_
  rintro cc fs m' ⟨rfl, rfl, G⟩
  exact ⟨by simp, .inr ⟨_, rfl, rfl, rfl, G⟩⟩
theorem merged_ok {Q : MH → Prop} (k : Bk m b h i c ts) (hm : WP (f_Book_merge [.ref b, .ref b2] m) (fun _ m' => Q m') NoE) :
    WP (f_law_merged [.ref b, .ref b2] m) (fun y m' => y = .non ∧ Q m') NoE := by
  unfold f_law_merged b_law_merged
  walk_at "w1"
  rw [s_seq]
  refine s_tryCF ?_
  try simp -dsimp only [w_methX, at0, at1, at2, at3, at4, at5, at6, wp_fn, s_nil, s_brk, s_cnt, s_expr, s_ret, s_retN, s_if, s_asn, s_par, s_asg, g_nm, g_nil, g_cons, g_tupT, g_subW, w_v0, w_vS, w_c, w_op, w_un, w_anil, w_acons, w_tup, w_lst, w_call, w_callU, w_isi, w_meth, w_tru, w_bool, w_notS, w_andS, w_orS, w_ifx, w_andV, w_orV, w_notV, w_chain, wp_ok, wp_bad, wp_some, wp_none, wp_liftif, wp_if, asB_b, wp_noex, add_ii, sub_ii, mul_ii, fdiv_ii, mod_ii, pow_ii, neg_i, cmp_ii, lt_ii, le_ii, gt_ii, ge_ii, le_cc, muls_ii, muls_si, ins_cs, iadd_ii, isub_ii, w_onone, w_osome, w_sl, sl_s, sl_t, s_aug, eq_ss, len_s, ix_s, add_ss, str_s, tuple_t, list_t, is_n, not_n, non_n, non_i, non_b, non_s, non_t, non_r, abs_i, max_ii, min_ii, int_i, int_b, gcd_ii, len_t, ix_t, eq_v, ne_v, eq_ii, eq_bb, eq_nn, eq_in, eq_ni, iv_n_list, iv_n_tuple, iv_n_bool, iv_n_str, iv_n_int, okt_n, iv_b_list, iv_b_tuple, iv_b_bool, iv_b_str, iv_b_int, okt_b, iv_i_list, iv_i_tuple, iv_i_bool, iv_i_str, iv_i_int, okt_i, iv_s_list, iv_s_tuple, iv_s_bool, iv_s_str, iv_s_int, okt_s, iv_t_list, iv_t_tuple, iv_t_bool, iv_t_str, iv_t_int, okt_t, iv_r_list, iv_r_tuple, iv_r_bool, iv_r_str, iv_r_int, tru_b, tru_i, tru_n, tru_t, Option.map_some, Option.map_none, List.map_cons, List.map_nil, List.length_cons, List.length_nil, List.set_cons_zero, List.set_cons_succ, List.cons_append, List.nil_append, List.replicate, Nat.reduceAdd, Nat.reduceSub, Nat.reduceLeDiff, true_and, and_true, decide_eq_true_eq, reduceIte, Bool.false_eq_true, Bool.not_true, Bool.not_false, decide_true, decide_false]
  refine ⟨isIns_r k.ob, ?_⟩
  refine wp_mono2 hm ?_ (fun _ _ _ h => h.elim)
  intro x m' q
  walk_at "w0"
  exact q
end
section
variable {m : MH} {L : List Loft} {B : List Bird} {R : List Race}
theorem cl0_r : ixv (clubPV L B R) (.int 0) m = some (.tup (L.map Loft.pv), m) := rfl
theorem cl1_r : ixv (clubPV L B R) (.int 1) m = some (.tup (B.map Bird.pv), m) := rfl
theorem cl2_r : ixv (clubPV L B R) (.int 2) m = some (.tup (R.map Race.pv), m) := rfl
theorem bd0_r {bd : Bird} {B' : List Bird} (e : B = bd :: B') : ixv (.tup (B.map Bird.pv)) (.int 0) m = some (bd.pv, m) := by
  subst e
  unfold ixv
  dsimp only
  rw [List.map_cons, at0]
  rfl
theorem rg_r {bd : Bird} : ixv bd.pv (.int 0) m = some (.int bd.ring, m) := rfl
theorem make_bk {i : Int} {c : PV} (h1 : 1 ≤ i) (h2 : i ≤ 9) : WP (f_Book_init [.ref m.length, .int i, c] (m ++ [.ins []])) (fun y m' => y = .non ∧ Bk m' m.length (m.length + 1) i c [] ∧ Gr m m') NoE := by
  refine (init_ok (b := m.length) (i := i) (c := c) get_new h1 h2).mono ?_
  rintro _ m2 ⟨rfl, K, hl2, F2⟩
  have lp : (m ++ [MO.ins []]).length = m.length + 1 := by simp
  rw [lp] at K hl2
  refine ⟨rfl, K, by omega, fun n o e => ?_⟩
  have hn := (List.getElem?_eq_some_iff.mp e).1
  exact F2.2 _ _ (by omega) (get_old e)
theorem isr_stk_ok {g u : Int} (hC : ClubG L B R) (hg : g ∈ B.map Bird.ring) (h0 : 0 ≤ u) (h1 : u ≤ 1000) : WP (f_is_right [clubPV L B R, (En.stk 0 g u).pv] m) (fun x m' => x = .bl true ∧ Ap m m') NoE := by
  have hB : B.length ≤ 100 := by have := hC.b2; omega
  have hr := hC.r1
  have hk : ninTxv (.str kStk) (.tup [.str [99, 108, 111, 99, 107], .str [115, 108, 105, 112], .str [115, 116, 97, 107, 101], .str [116, 114, 97, 110, 115, 102, 101, 114]]) m = some (.bl false, m) := kinds_r (.stk 0 0 0)
  have hs : kgetv T_SIZES (.str kStk) m = some (.int 4, m) := sizes_r (.stk 0 0 0)
  show WP (f_is_right [clubPV L B R, .tup [.str kStk, .int ((0 : Nat) : Int), .int g, .int u]] m) _ _
  unfold f_is_right b_is_right
  walk_at "w1"
  rw [s_seq]
  walk_at "w0"
  rw [s_seq]
  try simp -dsimp only [hk, hs, at0, at1, at2, at3, at4, at5, at6, wp_fn, s_nil, s_brk, s_cnt, s_expr, s_ret, s_retN, s_if, s_asn, s_par, s_asg, g_nm, g_nil, g_cons, g_tupT, g_subW, w_v0, w_vS, w_c, w_op, w_un, w_anil, w_acons, w_tup, w_lst, w_call, w_callU, w_isi, w_meth, w_tru, w_bool, w_notS, w_andS, w_orS, w_ifx, w_andV, w_orV, w_notV, w_chain, wp_ok, wp_bad, wp_some, wp_none, wp_liftif, wp_if, asB_b, wp_noex, add_ii, sub_ii, mul_ii, fdiv_ii, mod_ii, pow_ii, neg_i, cmp_ii, lt_ii, le_ii, gt_ii, ge_ii, le_cc, muls_ii, muls_si, ins_cs, iadd_ii, isub_ii, w_onone, w_osome, w_sl, sl_s, sl_t, s_aug, eq_ss, len_s, ix_s, add_ss, str_s, tuple_t, list_t, is_n, not_n, non_n, non_i, non_b, non_s, non_t, non_r, abs_i, max_ii, min_ii, int_i, int_b, gcd_ii, len_t, ix_t, eq_v, ne_v, eq_ii, eq_bb, eq_nn, eq_in, eq_ni, iv_n_list, iv_n_tuple, iv_n_bool, iv_n_str, iv_n_int, okt_n, iv_b_list, iv_b_tuple, iv_b_bool, iv_b_str, iv_b_int, okt_b, iv_i_list, iv_i_tuple, iv_i_bool, iv_i_str, iv_i_int, okt_i, iv_s_list, iv_s_tuple, iv_s_bool, iv_s_str, iv_s_int, okt_s, iv_t_list, iv_t_tuple, iv_t_bool, iv_t_str, iv_t_int, okt_t, iv_r_list, iv_r_tuple, iv_r_bool, iv_r_str, iv_r_int, tru_b, tru_i, tru_n, tru_t, Option.map_some, Option.map_none, List.map_cons, List.map_nil, List.length_cons, List.length_nil, List.set_cons_zero, List.set_cons_succ, List.cons_append, List.nil_append, List.replicate, Nat.reduceAdd, Nat.reduceSub, Nat.reduceLeDiff, true_and, and_true, decide_eq_true_eq, reduceIte, Bool.false_eq_true, Bool.not_true, Bool.not_false, decide_true, decide_false]
  rw [s_seq]
  try simp -dsimp only [kStk, at0, at1, at2, at3, at4, at5, at6, wp_fn, s_nil, s_brk, s_cnt, s_expr, s_ret, s_retN, s_if, s_asn, s_par, s_asg, g_nm, g_nil, g_cons, g_tupT, g_subW, w_v0, w_vS, w_c, w_op, w_un, w_anil, w_acons, w_tup, w_lst, w_call, w_callU, w_isi, w_meth, w_tru, w_bool, w_notS, w_andS, w_orS, w_ifx, w_andV, w_orV, w_notV, w_chain, wp_ok, wp_bad, wp_some, wp_none, wp_liftif, wp_if, asB_b, wp_noex, add_ii, sub_ii, mul_ii, fdiv_ii, mod_ii, pow_ii, neg_i, cmp_ii, lt_ii, le_ii, gt_ii, ge_ii, le_cc, muls_ii, muls_si, ins_cs, iadd_ii, isub_ii, w_onone, w_osome, w_sl, sl_s, sl_t, s_aug, eq_ss, len_s, ix_s, add_ss, str_s, tuple_t, list_t, is_n, not_n, non_n, non_i, non_b, non_s, non_t, non_r, abs_i, max_ii, min_ii, int_i, int_b, gcd_ii, len_t, ix_t, eq_v, ne_v, eq_ii, eq_bb, eq_nn, eq_in, eq_ni, iv_n_list, iv_n_tuple, iv_n_bool, iv_n_str, iv_n_int, okt_n, iv_b_list, iv_b_tuple, iv_b_bool, iv_b_str, iv_b_int, okt_b, iv_i_list, iv_i_tuple, iv_i_bool, iv_i_str, iv_i_int, okt_i, iv_s_list, iv_s_tuple, iv_s_bool, iv_s_str, iv_s_int, okt_s, iv_t_list, iv_t_tuple, iv_t_bool, iv_t_str, iv_t_int, okt_t, iv_r_list, iv_r_tuple, iv_r_bool, iv_r_str, iv_r_int, tru_b, tru_i, tru_n, tru_t, Option.map_some, Option.map_none, List.map_cons, List.map_nil, List.length_cons, List.length_nil, List.set_cons_zero, List.set_cons_succ, List.cons_append, List.nil_append, List.replicate, Nat.reduceAdd, Nat.reduceSub, Nat.reduceLeDiff, true_and, and_true, decide_eq_true_eq, reduceIte, Bool.false_eq_true, Bool.not_true, Bool.not_false, decide_true, decide_false]
  rw [if_neg (by decide), if_neg (by decide)]
  walk_at "w0"
  rw [s_seq]
  walk_at "w0"
  rw [if_neg (by decide)]
  walk_at "w0"
  rw [s_seq]
  walk_at "w0"
  rw [s_seq]
  walk_at "w0"
  refine (israce_ok (r := 0) (by omega)).mono ?_
  rintro _ m1 ⟨rfl, rfl⟩
  walk_at "w0"
  refine (isringT hB hg).mono ?_
  rintro _ m1 ⟨rfl, A1⟩
  walk_at "w0"
  rw [s_seq]
  walk_at "w0"
  refine (isfrom_ok (nr_int _)).mono ?_
  rintro _ m1 ⟨rfl, rfl⟩
  exact ⟨by unfold frm; simp; omega, A1⟩
theorem en_ne {e : En} {g : Int} (h : EnOk L B R e) : SM.eqV m e.pv (En.stk 0 g 999).pv = some false := by
  have d1 : DD 8 e.pv (.tuple (.str ⟨e.kind.toArray⟩ :: e.datR)) := dd_tup (.cons (dd_str (cps_kind e)) (rest_dat h 7))
  have d2 : DD 8 (En.stk 0 g 999).pv (.tuple (.str ⟨kStk.toArray⟩ :: [.int ((0 : Nat) : Int), .int g, .int 999])) := dd_tup (.cons (dd_str (cps_kind (.stk 0 g 999))) (.cons dd_int (.cons dd_int (.cons dd_int .nil))))
  refine eq_dataF eqF_tup (d1.1 m) (d2.1 m) d1.2.1 (by have := d1.2.2; omega) d2.2.1 (by have := d2.2.2; omega) ?_
  cases e with
  | clk c => simp [PyData.eqv, PyData.eqvAll, En.kind, kClk, kStk]
  | tra a b c => simp [PyData.eqv, PyData.eqvAll, En.kind, kTra, kStk]
  | slp a b c => simp [PyData.eqv, PyData.eqvAll, En.kind, kSlp, kStk]
  | stk r g' u =>
    have hu : u ≤ 100 := h.2.2.2
    have hu : u ≠ 999 := by omega
    simp [PyData.eqv, PyData.eqvAll, En.kind, En.datR, hu]
theorem dds_map {α : Type} {n : Nat} {f : α → PV} {g : α → PyData} : ∀ {xs : List α}, (∀ x ∈ xs, DD n (f x) (g x)) → DDs n (xs.map f) (xs.map g)
  | [], _ => .nil
  | x :: xs, h => .cons (h x List.mem_cons_self) (dds_map fun y hy => h y (List.mem_cons_of_mem _ hy))
def bdD (b : Bird) : PyData := .tuple [.int b.ring, .int b.loft, .int b.year]
theorem club_ne {bd : Bird} {B' : List Bird} (hC : ClubG L B R) (eB : B = bd :: B') : SM.eqV m (clubPV L B R) (.tup [.tup (L.map Loft.pv), .tup [bd.pv, .tup [.int 997, .int 0, .int 1]], .tup (R.map Race.pv)]) = some false := by
  obtain ⟨d1, h1⟩ : ∃ d, DD 7 (.tup (L.map Loft.pv)) d := dd_tupM fun l hl => ⟨_, dd_tup (.cons (dd_str (hC.nm l hl)) (.cons dd_int (.cons dd_int .nil)))⟩
  obtain ⟨d3, h3⟩ : ∃ d, DD 7 (.tup (R.map Race.pv)) d := dd_tupM fun l hl => ⟨_, dd_tup (.cons (dd_str (hC.rs l hl).2.2.2) (.cons dd_int (.cons dd_int (.cons dd_int (.cons dd_int (.cons dd_int (.cons dd_int .nil))))))) ⟩
  have hb : ∀ b : Bird, DD 6 b.pv (bdD b) := fun b => dd_tup (.cons dd_int (.cons dd_int (.cons dd_int .nil)))
  have h2 : DD 7 (.tup (B.map Bird.pv)) (.tuple (B.map bdD)) := dd_tup (dds_map fun b _ => hb b)
  have h4 : DD 7 (.tup [bd.pv, .tup [.int 997, .int 0, .int 1]]) (.tuple [bdD bd, .tuple [.int 997, .int 0, .int 1]]) := dd_tup (.cons (hb bd) (.cons (dd_tup (n := 5) (.cons dd_int (.cons dd_int (.cons dd_int .nil)))) .nil))
  have c1 : DD 8 (clubPV L B R) _ := dd_tup (.cons h1 (.cons h2 (.cons h3 .nil)))
  have c2 : DD 8 (.tup [.tup (L.map Loft.pv), .tup [bd.pv, .tup [.int 997, .int 0, .int 1]], .tup (R.map Race.pv)]) _ := dd_tup (.cons h1 (.cons h4 (.cons h3 .nil)))
  refine eq_dataF eqF_tup (c1.1 m) (c2.1 m) c1.2.1 (by have := c1.2.2; omega) c2.2.1 (by have := c2.2.2; omega) ?_
  subst eB
  cases B' with
  | nil => simp [PyData.eqv, PyData.eqvAll]
  | cons b r =>
    have := hC.rg b (by simp)
    have hn : b.ring ≠ 997 := by omega
    simp [PyData.eqv, PyData.eqvAll, bdD, hn]
end
/-- the tellings of one who told the same stake again and again -/
def sameT (i g : Int) (n : Nat) : List Tl := (List.range n).map fun q : Nat => ⟨((q : Nat) : Int) + 1, i, .stk 0 g 999⟩
theorem same_max {i g : Int} {n : Nat} : maxDf ((sameT i g n).map Tl.st) 0 = (n : Int) := by
  have h1 : ∀ y ∈ (sameT i g n).map Tl.st, 1 ≤ y ∧ y ≤ (n : Int) := fun y hy => by
    obtain ⟨t, ht, rfl⟩ := List.mem_map.mp hy
    obtain ⟨q, hq, rfl⟩ := List.mem_map.mp ht
    have := List.mem_range.mp hq
    show 1 ≤ (q : Int) + 1 ∧ (q : Int) + 1 ≤ (n : Int)
    omega
  have h2 := maxDf_le (k := n) (by omega) fun y hy => (h1 y hy).2
  have h3 := maxDf_nn fun y hy => show 0 ≤ y by have := (h1 y hy).1; omega
  cases n with
  | zero => omega
  | succ n =>
    have h4 := maxDf_ge (ns := (sameT i g (n + 1)).map Tl.st) ((n : Int) + 1) (List.mem_map.mpr ⟨⟨(n : Int) + 1, i, .stk 0 g 999⟩, List.mem_map.mpr ⟨n, List.mem_range.mpr (by omega), rfl⟩, rfl⟩)
    omega
theorem same_snoc {i g : Int} {n : Nat} : sameT i g n ++ [⟨1 + maxDf ((sameT i g n).map Tl.st) 0, i, .stk 0 g 999⟩] = sameT i g (n + 1) := by
  rw [same_max]
  unfold sameT
  rw [List.range_succ, List.map_append, List.map_cons, List.map_nil, Int.add_comm 1 (n : Int)]
section
variable {m : MH} {L : List Loft} {B : List Bird} {R : List Race} {ns : List Int} {bw hw pb : Nat} {i : Int} {xs : List Tl} {ds : List PyData}
/-- a wrong entry, told to a book -/
theorem turn_ok (hC : ClubG L B R) (h0 : seq? m 0 = some (ns.map .int)) (k : Bk m bw hw i (clubPV L B R) xs) (PB : m[pb]? = some (.lst (xs.map Tl.pv))) (hd : DDs 7 (xs.map Tl.pv) ds) {j : Int} (hj : 0 ≤ j) {x5 : Option PV} :
    WS (law_l1 [some (.ref 0), some (clubPV L B R), some (.ref bw), some (.ref pb), some (.int j), x5, none, none, none, none, none, none] m)
      ⟨fun l' m' => ∃ x5 : Option PV, l' = [some (.ref 0), some (clubPV L B R), some (.ref bw), some (.ref pb), some (.int j), x5, none, none, none, none, none, none] ∧ Gr m m', fun _ _ => False, fun _ _ => False, fun _ _ => False, fun _ _ _ _ => False⟩ := by
  unfold law_l1
  rw [s_seq]
  walk_at "w0"
  refine (cell_ok h0 hj).mono ?_
  rintro _ m ⟨rfl, rfl⟩
  walk_at "w0"
  refine (wrong_ok hC).mono ?_
  rintro x m1 ⟨kd, r, rfl, hr, G1⟩
  have k1 := k.gr G1
  have PB1 := G1.get _ _ PB
  walk_at "w0"
  refine (told_bad rfl k1 hr).mono ?_
  rintro _ m2 ⟨rfl, G2⟩
  have k2 := k1.gr G2
  have PB2 := G2.get _ _ PB1
  try simp -dsimp only [at0, eq_ss, w_methB, at0, at1, at2, at3, at4, at5, at6, wp_fn, s_nil, s_brk, s_cnt, s_expr, s_ret, s_retN, s_if, s_asn, s_par, s_asg, g_nm, g_nil, g_cons, g_tupT, g_subW, w_v0, w_vS, w_c, w_op, w_un, w_anil, w_acons, w_tup, w_lst, w_call, w_callU, w_isi, w_meth, w_tru, w_bool, w_notS, w_andS, w_orS, w_ifx, w_andV, w_orV, w_notV, w_chain, wp_ok, wp_bad, wp_some, wp_none, wp_liftif, wp_if, asB_b, wp_noex, add_ii, sub_ii, mul_ii, fdiv_ii, mod_ii, pow_ii, neg_i, cmp_ii, lt_ii, le_ii, gt_ii, ge_ii, le_cc, muls_ii, muls_si, ins_cs, iadd_ii, isub_ii, w_onone, w_osome, w_sl, sl_s, sl_t, s_aug, eq_ss, len_s, ix_s, add_ss, str_s, tuple_t, list_t, is_n, not_n, non_n, non_i, non_b, non_s, non_t, non_r, abs_i, max_ii, min_ii, int_i, int_b, gcd_ii, len_t, ix_t, eq_v, ne_v, eq_ii, eq_bb, eq_nn, eq_in, eq_ni, iv_n_list, iv_n_tuple, iv_n_bool, iv_n_str, iv_n_int, okt_n, iv_b_list, iv_b_tuple, iv_b_bool, iv_b_str, iv_b_int, okt_b, iv_i_list, iv_i_tuple, iv_i_bool, iv_i_str, iv_i_int, okt_i, iv_s_list, iv_s_tuple, iv_s_bool, iv_s_str, iv_s_int, okt_s, iv_t_list, iv_t_tuple, iv_t_bool, iv_t_str, iv_t_int, okt_t, iv_r_list, iv_r_tuple, iv_r_bool, iv_r_str, iv_r_int, tru_b, tru_i, tru_n, tru_t, Option.map_some, Option.map_none, List.map_cons, List.map_nil, List.length_cons, List.length_nil, List.set_cons_zero, List.set_cons_succ, List.cons_append, List.nil_append, List.replicate, Nat.reduceAdd, Nat.reduceSub, Nat.reduceLeDiff, true_and, and_true, decide_eq_true_eq, reduceIte, Bool.false_eq_true, Bool.not_true, Bool.not_false, decide_true, decide_false]
  refine ⟨isIns_r k2.ob, (held_ok k2).mono ?_⟩
  rintro _ _ ⟨rfl, rfl⟩
  try simp -dsimp only [eq_lsts (seq_of_lst (get_new (m := m2) (o := MO.lst (xs.map Tl.pv)))) (seq_of_lst (get_old (o := MO.lst (xs.map Tl.pv)) PB2)) hd, at0, at1, at2, at3, at4, at5, at6, wp_fn, s_nil, s_brk, s_cnt, s_expr, s_ret, s_retN, s_if, s_asn, s_par, s_asg, g_nm, g_nil, g_cons, g_tupT, g_subW, w_v0, w_vS, w_c, w_op, w_un, w_anil, w_acons, w_tup, w_lst, w_call, w_callU, w_isi, w_meth, w_tru, w_bool, w_notS, w_andS, w_orS, w_ifx, w_andV, w_orV, w_notV, w_chain, wp_ok, wp_bad, wp_some, wp_none, wp_liftif, wp_if, asB_b, wp_noex, add_ii, sub_ii, mul_ii, fdiv_ii, mod_ii, pow_ii, neg_i, cmp_ii, lt_ii, le_ii, gt_ii, ge_ii, le_cc, muls_ii, muls_si, ins_cs, iadd_ii, isub_ii, w_onone, w_osome, w_sl, sl_s, sl_t, s_aug, eq_ss, len_s, ix_s, add_ss, str_s, tuple_t, list_t, is_n, not_n, non_n, non_i, non_b, non_s, non_t, non_r, abs_i, max_ii, min_ii, int_i, int_b, gcd_ii, len_t, ix_t, eq_v, ne_v, eq_ii, eq_bb, eq_nn, eq_in, eq_ni, iv_n_list, iv_n_tuple, iv_n_bool, iv_n_str, iv_n_int, okt_n, iv_b_list, iv_b_tuple, iv_b_bool, iv_b_str, iv_b_int, okt_b, iv_i_list, iv_i_tuple, iv_i_bool, iv_i_str, iv_i_int, okt_i, iv_s_list, iv_s_tuple, iv_s_bool, iv_s_str, iv_s_int, okt_s, iv_t_list, iv_t_tuple, iv_t_bool, iv_t_str, iv_t_int, okt_t, iv_r_list, iv_r_tuple, iv_r_bool, iv_r_str, iv_r_int, tru_b, tru_i, tru_n, tru_t, Option.map_some, Option.map_none, List.map_cons, List.map_nil, List.length_cons, List.length_nil, List.set_cons_zero, List.set_cons_succ, List.cons_append, List.nil_append, List.replicate, Nat.reduceAdd, Nat.reduceSub, Nat.reduceLeDiff, true_and, and_true, decide_eq_true_eq, reduceIte, Bool.false_eq_true, Bool.not_true, Bool.not_false, decide_true, decide_false]
  exact ⟨_, rfl, (G1.trans G2).push _⟩
end
theorem cl_add {m : MH} {B : List Bird} {bd : Bird} {B' : List Bird} (eB : B = bd :: B') : addv (.tup (cut (B.map Bird.pv) none (some 1))) (.tup [.tup [.int 997, .int 0, .int 1]]) m = some (.tup [bd.pv, .tup [.int 997, .int 0, .int 1]], m) := by
  subst eB
  have e : cut ((bd :: B').map Bird.pv) none (some 1) = [bd.pv] := by
    unfold cut
    simp [HT.sIx]
  rw [e]
  rfl
theorem same_mem {i g : Int} {n : Nat} {u : Tl} (h : u ∈ sameT i g n) : u.e = .stk 0 g 999 ∧ u.src = i := by
  obtain ⟨q, _, rfl⟩ := List.mem_map.mp h
  exact ⟨rfl, rfl⟩
theorem same_len {i g : Int} {n : Nat} : (sameT i g n).length = n := by
  unfold sameT
  rw [List.length_map, List.length_range]
theorem same_at {i g s : Int} {n : Nat} (h0 : 1 ≤ s) (h1 : s ≤ (n : Int)) : (⟨s, i, .stk 0 g 999⟩ : Tl) ∈ sameT i g n := by
  refine List.mem_map.mpr ⟨(s - 1).toNat, List.mem_range.mpr (by omega), ?_⟩
  have e : (((s - 1).toNat : Nat) : Int) + 1 = s := by omega
  rw [e]
section
variable {m : MH} {L : List Loft} {B : List Bird} {R : List Race} {ns : List Int} {bw hw pb : Nat} {i g : Int} {xs : List Tl} {ds : List PyData} {t : Tl}
theorem last_r (PB : m[pb]? = some (.lst (xs.map Tl.pv))) {ys : List Tl} (e : xs = ys ++ [t]) : ixv (.ref pb) (.int (-1)) m = some (t.pv, m) := by
  subst e
  rw [ix_r (seq_of_lst PB)]
  unfold atI ixN
  rw [if_neg (by decide), if_pos (by simp; omega)]
  simp
  rw [show (-1 + ((ys.length : Nat) + 1 : Int)).toNat = (ys.map Tl.pv).length by rw [List.length_map]; omega, List.getElem?_append_right (Nat.le_refl _), Nat.sub_self]
  rfl
theorem st_r : ixv t.pv (.int 0) m = some (.int t.st, m) := rfl
theorem src_r : ixv t.pv (.int 1) m = some (.int t.src, m) := by
  unfold Tl.pv ixv
  dsimp only
  rw [at1]
  rfl
theorem false_ok (hC : ClubG L B R) (hg : g ∈ B.map Bird.ring) (h1 : m[1]? = some (.tbl tabP lamQ)) (k : Bk m bw hw i (clubPV L B R) xs) (nd : (xs.map Tl.key).Nodup) (hl : xs.length ≤ 14) (ok : ∀ t ∈ xs, EnOk L B R t.e) (PB : m[pb]? = some (.lst (xs.map Tl.pv))) (hd : DDs 7 (xs.map Tl.pv) ds)
    {ys : List Tl} (e : xs = ys ++ [t]) (hs : 1 ≤ t.st ∧ t.st ≤ 14 ∧ 1 ≤ t.src ∧ t.src ≤ 3) {v : Int} (v1 : t.st ≤ v) (v2 : v ≤ 80) {x4 x5 x7 x8 x10 x11 : Option PV} :
    WS (law_l4 [some (.ref 0), some (clubPV L B R), some (.ref bw), some (.ref pb), x4, x5, some (.int g), x7, x8, some (.int v), x10, x11] m)
      ⟨fun l' m' => ∃ x10 x11 : Option PV, l' = [some (.ref 0), some (clubPV L B R), some (.ref bw), some (.ref pb), x4, x5, some (.int g), x7, x8, some (.int v), x10, x11] ∧ Gr m m', fun _ _ => False, fun _ _ => False, fun _ _ => False, fun _ _ _ _ => False⟩ := by
  have ht : t ∈ xs := by rw [e]; simp
  unfold law_l4
  rw [s_seq]
  walk_at "w0"
  refine w_make ?_
  try simp -dsimp only [last_r PB e, src_r, at0, at1, at2, at3, at4, at5, at6, wp_fn, s_nil, s_brk, s_cnt, s_expr, s_ret, s_retN, s_if, s_asn, s_par, s_asg, g_nm, g_nil, g_cons, g_tupT, g_subW, w_v0, w_vS, w_c, w_op, w_un, w_anil, w_acons, w_tup, w_lst, w_call, w_callU, w_isi, w_meth, w_tru, w_bool, w_notS, w_andS, w_orS, w_ifx, w_andV, w_orV, w_notV, w_chain, wp_ok, wp_bad, wp_some, wp_none, wp_liftif, wp_if, asB_b, wp_noex, add_ii, sub_ii, mul_ii, fdiv_ii, mod_ii, pow_ii, neg_i, cmp_ii, lt_ii, le_ii, gt_ii, ge_ii, le_cc, muls_ii, muls_si, ins_cs, iadd_ii, isub_ii, w_onone, w_osome, w_sl, sl_s, sl_t, s_aug, eq_ss, len_s, ix_s, add_ss, str_s, tuple_t, list_t, is_n, not_n, non_n, non_i, non_b, non_s, non_t, non_r, abs_i, max_ii, min_ii, int_i, int_b, gcd_ii, len_t, ix_t, eq_v, ne_v, eq_ii, eq_bb, eq_nn, eq_in, eq_ni, iv_n_list, iv_n_tuple, iv_n_bool, iv_n_str, iv_n_int, okt_n, iv_b_list, iv_b_tuple, iv_b_bool, iv_b_str, iv_b_int, okt_b, iv_i_list, iv_i_tuple, iv_i_bool, iv_i_str, iv_i_int, okt_i, iv_s_list, iv_s_tuple, iv_s_bool, iv_s_str, iv_s_int, okt_s, iv_t_list, iv_t_tuple, iv_t_bool, iv_t_str, iv_t_int, okt_t, iv_r_list, iv_r_tuple, iv_r_bool, iv_r_str, iv_r_int, tru_b, tru_i, tru_n, tru_t, Option.map_some, Option.map_none, List.map_cons, List.map_nil, List.length_cons, List.length_nil, List.set_cons_zero, List.set_cons_succ, List.cons_append, List.nil_append, List.replicate, Nat.reduceAdd, Nat.reduceSub, Nat.reduceLeDiff, true_and, and_true, decide_eq_true_eq, reduceIte, Bool.false_eq_true, Bool.not_true, Bool.not_false, decide_true, decide_false]
  refine (make_bk (i := t.src) hs.2.2.1 (by omega)).mono ?_
  rintro _ m1 ⟨rfl, K, G⟩
  walk_at "w0"
  rw [s_seq]
  obtain ⟨f, ef⟩ : ∃ f, f = m.length := ⟨_, rfl⟩
  rw [← ef] at K ⊢
  refine s_for1W ?_
  walk_at "w0"
  refine ⟨v, rfl, by omega, by omega, fun j l m' => ∃ (x11 : Option PV), l = [some (.ref 0), some (clubPV L B R), some (.ref bw), some (.ref pb), x4, x5, some (.int g), x7, x8, some (.int v), some (.ref f), x11] ∧ Bk m' f (f + 1) t.src (clubPV L B R) (sameT t.src g j) ∧ Gr m m', ⟨_, rfl, K, G⟩, ?_, ?_⟩
  · clear K G
    rintro j l m' hj ⟨x11, rfl, K, G⟩
    have hj : j < 80 := by omega
    unfold law_l3
    try simp -dsimp only [w_methB, at0, at1, at2, at3, at4, at5, at6, wp_fn, s_nil, s_brk, s_cnt, s_expr, s_ret, s_retN, s_if, s_asn, s_par, s_asg, g_nm, g_nil, g_cons, g_tupT, g_subW, w_v0, w_vS, w_c, w_op, w_un, w_anil, w_acons, w_tup, w_lst, w_call, w_callU, w_isi, w_meth, w_tru, w_bool, w_notS, w_andS, w_orS, w_ifx, w_andV, w_orV, w_notV, w_chain, wp_ok, wp_bad, wp_some, wp_none, wp_liftif, wp_if, asB_b, wp_noex, add_ii, sub_ii, mul_ii, fdiv_ii, mod_ii, pow_ii, neg_i, cmp_ii, lt_ii, le_ii, gt_ii, ge_ii, le_cc, muls_ii, muls_si, ins_cs, iadd_ii, isub_ii, w_onone, w_osome, w_sl, sl_s, sl_t, s_aug, eq_ss, len_s, ix_s, add_ss, str_s, tuple_t, list_t, is_n, not_n, non_n, non_i, non_b, non_s, non_t, non_r, abs_i, max_ii, min_ii, int_i, int_b, gcd_ii, len_t, ix_t, eq_v, ne_v, eq_ii, eq_bb, eq_nn, eq_in, eq_ni, iv_n_list, iv_n_tuple, iv_n_bool, iv_n_str, iv_n_int, okt_n, iv_b_list, iv_b_tuple, iv_b_bool, iv_b_str, iv_b_int, okt_b, iv_i_list, iv_i_tuple, iv_i_bool, iv_i_str, iv_i_int, okt_i, iv_s_list, iv_s_tuple, iv_s_bool, iv_s_str, iv_s_int, okt_s, iv_t_list, iv_t_tuple, iv_t_bool, iv_t_str, iv_t_int, okt_t, iv_r_list, iv_r_tuple, iv_r_bool, iv_r_str, iv_r_int, tru_b, tru_i, tru_n, tru_t, Option.map_some, Option.map_none, List.map_cons, List.map_nil, List.length_cons, List.length_nil, List.set_cons_zero, List.set_cons_succ, List.cons_append, List.nil_append, List.replicate, Nat.reduceAdd, Nat.reduceSub, Nat.reduceLeDiff, true_and, and_true, decide_eq_true_eq, reduceIte, Bool.false_eq_true, Bool.not_true, Bool.not_false, decide_true, decide_false]
    refine ⟨isIns_r K.ob, ?_⟩
    refine (tell_gen (E := NoE) (e := .stk 0 g 999) K (by rw [same_len]; exact hj) fun m => isr_stk_ok hC hg (by decide) (by decide)).mono ?_
    rintro x m4 ⟨K4, F4⟩
    rw [same_snoc] at K4
    exact ⟨_, rfl, K4, gr_frk G F4 (by omega)⟩
  clear K G
  rintro l m2 ⟨x11, rfl, K, G⟩
  have k2 := k.gr G
  walk_at "w1"
  refine (merged_other k2 (merge_clash hC k2 K nd (by omega) (by rw [same_len]; omega) (G.get _ _ h1) (fun t' ht' u hu m => by
    rw [(same_mem hu).1]
    exact en_ne (ok t' ht')) ⟨_, same_at hs.1 (by omega), List.mem_map.mpr ⟨t, ht, rfl⟩⟩)).mono ?_
  rintro _ m3 ⟨rfl, G3⟩
  have G := G.trans G3
  try simp -dsimp only [w_methB, at0, at1, at2, at3, at4, at5, at6, wp_fn, s_nil, s_brk, s_cnt, s_expr, s_ret, s_retN, s_if, s_asn, s_par, s_asg, g_nm, g_nil, g_cons, g_tupT, g_subW, w_v0, w_vS, w_c, w_op, w_un, w_anil, w_acons, w_tup, w_lst, w_call, w_callU, w_isi, w_meth, w_tru, w_bool, w_notS, w_andS, w_orS, w_ifx, w_andV, w_orV, w_notV, w_chain, wp_ok, wp_bad, wp_some, wp_none, wp_liftif, wp_if, asB_b, wp_noex, add_ii, sub_ii, mul_ii, fdiv_ii, mod_ii, pow_ii, neg_i, cmp_ii, lt_ii, le_ii, gt_ii, ge_ii, le_cc, muls_ii, muls_si, ins_cs, iadd_ii, isub_ii, w_onone, w_osome, w_sl, sl_s, sl_t, s_aug, eq_ss, len_s, ix_s, add_ss, str_s, tuple_t, list_t, is_n, not_n, non_n, non_i, non_b, non_s, non_t, non_r, abs_i, max_ii, min_ii, int_i, int_b, gcd_ii, len_t, ix_t, eq_v, ne_v, eq_ii, eq_bb, eq_nn, eq_in, eq_ni, iv_n_list, iv_n_tuple, iv_n_bool, iv_n_str, iv_n_int, okt_n, iv_b_list, iv_b_tuple, iv_b_bool, iv_b_str, iv_b_int, okt_b, iv_i_list, iv_i_tuple, iv_i_bool, iv_i_str, iv_i_int, okt_i, iv_s_list, iv_s_tuple, iv_s_bool, iv_s_str, iv_s_int, okt_s, iv_t_list, iv_t_tuple, iv_t_bool, iv_t_str, iv_t_int, okt_t, iv_r_list, iv_r_tuple, iv_r_bool, iv_r_str, iv_r_int, tru_b, tru_i, tru_n, tru_t, Option.map_some, Option.map_none, List.map_cons, List.map_nil, List.length_cons, List.length_nil, List.set_cons_zero, List.set_cons_succ, List.cons_append, List.nil_append, List.replicate, Nat.reduceAdd, Nat.reduceSub, Nat.reduceLeDiff, true_and, and_true, decide_eq_true_eq, reduceIte, Bool.false_eq_true, Bool.not_true, Bool.not_false, decide_true, decide_false]
  refine ⟨isIns_r (k.gr G).ob, (held_ok (k.gr G)).mono ?_⟩
  rintro _ _ ⟨rfl, rfl⟩
  try simp -dsimp only [eq_lsts (seq_of_lst (get_new (m := m3) (o := MO.lst (xs.map Tl.pv)))) (seq_of_lst (get_old (o := MO.lst (xs.map Tl.pv)) (G.get _ _ PB))) hd, at0, at1, at2, at3, at4, at5, at6, wp_fn, s_nil, s_brk, s_cnt, s_expr, s_ret, s_retN, s_if, s_asn, s_par, s_asg, g_nm, g_nil, g_cons, g_tupT, g_subW, w_v0, w_vS, w_c, w_op, w_un, w_anil, w_acons, w_tup, w_lst, w_call, w_callU, w_isi, w_meth, w_tru, w_bool, w_notS, w_andS, w_orS, w_ifx, w_andV, w_orV, w_notV, w_chain, wp_ok, wp_bad, wp_some, wp_none, wp_liftif, wp_if, asB_b, wp_noex, add_ii, sub_ii, mul_ii, fdiv_ii, mod_ii, pow_ii, neg_i, cmp_ii, lt_ii, le_ii, gt_ii, ge_ii, le_cc, muls_ii, muls_si, ins_cs, iadd_ii, isub_ii, w_onone, w_osome, w_sl, sl_s, sl_t, s_aug, eq_ss, len_s, ix_s, add_ss, str_s, tuple_t, list_t, is_n, not_n, non_n, non_i, non_b, non_s, non_t, non_r, abs_i, max_ii, min_ii, int_i, int_b, gcd_ii, len_t, ix_t, eq_v, ne_v, eq_ii, eq_bb, eq_nn, eq_in, eq_ni, iv_n_list, iv_n_tuple, iv_n_bool, iv_n_str, iv_n_int, okt_n, iv_b_list, iv_b_tuple, iv_b_bool, iv_b_str, iv_b_int, okt_b, iv_i_list, iv_i_tuple, iv_i_bool, iv_i_str, iv_i_int, okt_i, iv_s_list, iv_s_tuple, iv_s_bool, iv_s_str, iv_s_int, okt_s, iv_t_list, iv_t_tuple, iv_t_bool, iv_t_str, iv_t_int, okt_t, iv_r_list, iv_r_tuple, iv_r_bool, iv_r_str, iv_r_int, tru_b, tru_i, tru_n, tru_t, Option.map_some, Option.map_none, List.map_cons, List.map_nil, List.length_cons, List.length_nil, List.set_cons_zero, List.set_cons_succ, List.cons_append, List.nil_append, List.replicate, Nat.reduceAdd, Nat.reduceSub, Nat.reduceLeDiff, true_and, and_true, decide_eq_true_eq, reduceIte, Bool.false_eq_true, Bool.not_true, Bool.not_false, decide_true, decide_false]
  exact ⟨_, _, rfl, G.push _⟩
end
theorem goal : Goal := by
  intro ns hns o ho
  suffices h : WP (f_law [.ref 0] [o, .tbl tabP lamQ]) (fun x m' => x = .bl true) NoE by
    obtain ⟨x, m', e, rfl⟩ := h.run
    exact ⟨m', e⟩
  have h0 : seq? [o, .tbl tabP lamQ] 0 = some (ns.map .int) := by
    rcases ho with rfl | rfl <;> rfl
  have hT : ([o, MO.tbl tabP lamQ] : MH)[1]? = some (.tbl tabP lamQ) := rfl
  generalize ([o, MO.tbl tabP lamQ] : MH) = m0 at *
  unfold f_law b_law
  walk_at "w1"
  rw [s_seq]
  walk_at "w0"
  refine (club_ok h0).mono ?_
  rintro _ m1 ⟨L, B, R, rfl, hC, G1⟩
  have h1 := seq_fr (G1.frk (k := 1)) (by decide) h0
  have T1 := G1.get _ _ hT
  clear h0 hT G1
  walk_at "w0"
  rw [s_seq]
  walk_at "w0"
  refine (lawbooks_ok hC T1 h1).mono ?_
  rintro _ m2 ⟨P, b, hh, ts, U, rfl, I, g, gs, hP⟩
  have h2 := seq_fr (I.gr.frk (k := 1)) (by decide) h1
  walk_at "w0"
  refine (cell_ok h2 (by decide)).mono ?_
  rintro _ m2 ⟨rfl, rfl⟩
  generalize ns.getD _ 0 = c
  walk_at "w0"
  rw [if_pos (by decide), fmod_pos (a := c) (b := 3) (by decide)]
  have w1 : 0 ≤ c % 3 := Int.emod_nonneg _ (by decide)
  have w2 : c % 3 < 3 := Int.emod_lt_of_pos _ (by decide)
  generalize c % 3 = c3 at *
  obtain ⟨w, rfl⟩ := Int.eq_ofNat_of_zero_le w1
  have hw : w < 3 := by omega
  try simp -dsimp only [ix3 I.pb hw, at0, at1, at2, at3, at4, at5, at6, wp_fn, s_nil, s_brk, s_cnt, s_expr, s_ret, s_retN, s_if, s_asn, s_par, s_asg, g_nm, g_nil, g_cons, g_tupT, g_subW, w_v0, w_vS, w_c, w_op, w_un, w_anil, w_acons, w_tup, w_lst, w_call, w_callU, w_isi, w_meth, w_tru, w_bool, w_notS, w_andS, w_orS, w_ifx, w_andV, w_orV, w_notV, w_chain, wp_ok, wp_bad, wp_some, wp_none, wp_liftif, wp_if, asB_b, wp_noex, add_ii, sub_ii, mul_ii, fdiv_ii, mod_ii, pow_ii, neg_i, cmp_ii, lt_ii, le_ii, gt_ii, ge_ii, le_cc, muls_ii, muls_si, ins_cs, iadd_ii, isub_ii, w_onone, w_osome, w_sl, sl_s, sl_t, s_aug, eq_ss, len_s, ix_s, add_ss, str_s, tuple_t, list_t, is_n, not_n, non_n, non_i, non_b, non_s, non_t, non_r, abs_i, max_ii, min_ii, int_i, int_b, gcd_ii, len_t, ix_t, eq_v, ne_v, eq_ii, eq_bb, eq_nn, eq_in, eq_ni, iv_n_list, iv_n_tuple, iv_n_bool, iv_n_str, iv_n_int, okt_n, iv_b_list, iv_b_tuple, iv_b_bool, iv_b_str, iv_b_int, okt_b, iv_i_list, iv_i_tuple, iv_i_bool, iv_i_str, iv_i_int, okt_i, iv_s_list, iv_s_tuple, iv_s_bool, iv_s_str, iv_s_int, okt_s, iv_t_list, iv_t_tuple, iv_t_bool, iv_t_str, iv_t_int, okt_t, iv_r_list, iv_r_tuple, iv_r_bool, iv_r_str, iv_r_int, tru_b, tru_i, tru_n, tru_t, Option.map_some, Option.map_none, List.map_cons, List.map_nil, List.length_cons, List.length_nil, List.set_cons_zero, List.set_cons_succ, List.cons_append, List.nil_append, List.replicate, Nat.reduceAdd, Nat.reduceSub, Nat.reduceLeDiff, true_and, and_true, decide_eq_true_eq, reduceIte, Bool.false_eq_true, Bool.not_true, Bool.not_false, decide_true, decide_false]
  have k := I.bk w hw
  have nd := g.nd w hw
  have hl : (ts w).length ≤ 14 := g.le hw
  have ok := g.oks hw
  have hst : ∀ t ∈ ts w, 1 ≤ t.st ∧ t.st ≤ 14 ∧ 1 ≤ t.src ∧ t.src ≤ 3 := fun t ht => by
    obtain ⟨⟨j, hj, e⟩, s1, s2⟩ := gs t (g.sub w hw t ht)
    omega
  have T := I.gr.get _ _ T1
  clear I g gs T1 h1 hP
  generalize ts w = xs at *
  generalize b w = bw at *
  generalize hh w = hw' at *
  clear ts b hh U
  obtain ⟨ds, hd⟩ := tls_dd ok 5
  obtain ⟨bd, B', eB⟩ : ∃ bd B', B = bd :: B' := by
    cases B with
    | nil => have := hC.b1; simp at this
    | cons x xs => exact ⟨_, _, rfl⟩
  have hg : bd.ring ∈ B.map Bird.ring := by rw [eB]; simp
  rw [s_seq]
  try simp -dsimp only [w_methB, at0, at1, at2, at3, at4, at5, at6, wp_fn, s_nil, s_brk, s_cnt, s_expr, s_ret, s_retN, s_if, s_asn, s_par, s_asg, g_nm, g_nil, g_cons, g_tupT, g_subW, w_v0, w_vS, w_c, w_op, w_un, w_anil, w_acons, w_tup, w_lst, w_call, w_callU, w_isi, w_meth, w_tru, w_bool, w_notS, w_andS, w_orS, w_ifx, w_andV, w_orV, w_notV, w_chain, wp_ok, wp_bad, wp_some, wp_none, wp_liftif, wp_if, asB_b, wp_noex, add_ii, sub_ii, mul_ii, fdiv_ii, mod_ii, pow_ii, neg_i, cmp_ii, lt_ii, le_ii, gt_ii, ge_ii, le_cc, muls_ii, muls_si, ins_cs, iadd_ii, isub_ii, w_onone, w_osome, w_sl, sl_s, sl_t, s_aug, eq_ss, len_s, ix_s, add_ss, str_s, tuple_t, list_t, is_n, not_n, non_n, non_i, non_b, non_s, non_t, non_r, abs_i, max_ii, min_ii, int_i, int_b, gcd_ii, len_t, ix_t, eq_v, ne_v, eq_ii, eq_bb, eq_nn, eq_in, eq_ni, iv_n_list, iv_n_tuple, iv_n_bool, iv_n_str, iv_n_int, okt_n, iv_b_list, iv_b_tuple, iv_b_bool, iv_b_str, iv_b_int, okt_b, iv_i_list, iv_i_tuple, iv_i_bool, iv_i_str, iv_i_int, okt_i, iv_s_list, iv_s_tuple, iv_s_bool, iv_s_str, iv_s_int, okt_s, iv_t_list, iv_t_tuple, iv_t_bool, iv_t_str, iv_t_int, okt_t, iv_r_list, iv_r_tuple, iv_r_bool, iv_r_str, iv_r_int, tru_b, tru_i, tru_n, tru_t, Option.map_some, Option.map_none, List.map_cons, List.map_nil, List.length_cons, List.length_nil, List.set_cons_zero, List.set_cons_succ, List.cons_append, List.nil_append, List.replicate, Nat.reduceAdd, Nat.reduceSub, Nat.reduceLeDiff, true_and, and_true, decide_eq_true_eq, reduceIte, Bool.false_eq_true, Bool.not_true, Bool.not_false, decide_true, decide_false]
  refine ⟨isIns_r k.ob, (held_ok k).mono ?_⟩
  rintro _ _ ⟨rfl, rfl⟩
  have PB := get_new (m := m2) (o := MO.lst (xs.map Tl.pv))
  have G3 := Gr.one (m := m2) (o := MO.lst (xs.map Tl.pv))
  have h3 := seq_fr (G3.frk (k := 1)) (by decide) h2
  have k3 := k.gr G3
  have T3 := G3.get _ _ T
  clear h2 k T G3
  generalize m2 ++ [MO.lst (xs.map Tl.pv)] = m3 at *
  generalize m2.length = pb at *
  have held : ∀ {m : MH}, Gr m3 m → SM.eqV (m ++ [MO.lst (xs.map Tl.pv)]) (.ref m.length) (.ref pb) = some true := fun {m} G => eq_lsts (seq_of_lst get_new) (seq_of_lst (get_old (G.get _ _ PB))) hd
  walk_at "w0"
  rw [s_seq]
  refine s_for2W ?_
  walk_at "w0"
  refine ⟨21, 26, rfl, rfl, ⟨by decide, by decide, by decide, by decide⟩, fun j l m' => ∃ x4 x5 : Option PV, l = [some (.ref 0), some (clubPV L B R), some (.ref bw), some (.ref pb), x4, x5, none, none, none, none, none, none] ∧ Gr m3 m', ⟨_, _, rfl, Gr.refl⟩, ?_, ?_⟩
  · rintro j l m' hj ⟨x4, x5, rfl, G⟩
    walk_at "w0"
    refine (turn_ok hC (seq_fr (G.frk (k := 1)) (by decide) h3) (k3.gr G) (G.get _ _ PB) hd (j := 21 + (j : Nat)) (by omega)).mono ?_ (fun _ _ h => h.elim) (fun _ _ h => h.elim) (fun _ _ h => h.elim) (fun _ _ _ _ h => h.elim)
    rintro l' m4 ⟨y5, rfl, G4⟩
    exact ⟨_, _, rfl, G.trans G4⟩
  rintro l m4 ⟨x4, x5, rfl, G4⟩
  walk_at "w1"
  rw [s_seq]
  walk_at "w0"
  refine (made_bad (i := 0) (by decide)).mono ?_
  rintro _ m5 ⟨rfl, G5⟩
  walk_at "w0"
  refine (made_bad (i := 10) (by decide)).mono ?_
  rintro _ m6 ⟨rfl, G6⟩
  walk_at "w0"
  refine (made_ok (by decide) (by decide)).mono ?_
  rintro _ m7 ⟨rfl, G7⟩
  walk_at "w0"
  have G := ((G4.trans G5).trans G6).trans G7
  clear G4 G5 G6 G7
  clear m4 m5 m6
  rw [s_seq]
  try simp -dsimp only [cl1_r, bd0_r eB, rg_r, at0, at1, at2, at3, at4, at5, at6, wp_fn, s_nil, s_brk, s_cnt, s_expr, s_ret, s_retN, s_if, s_asn, s_par, s_asg, g_nm, g_nil, g_cons, g_tupT, g_subW, w_v0, w_vS, w_c, w_op, w_un, w_anil, w_acons, w_tup, w_lst, w_call, w_callU, w_isi, w_meth, w_tru, w_bool, w_notS, w_andS, w_orS, w_ifx, w_andV, w_orV, w_notV, w_chain, wp_ok, wp_bad, wp_some, wp_none, wp_liftif, wp_if, asB_b, wp_noex, add_ii, sub_ii, mul_ii, fdiv_ii, mod_ii, pow_ii, neg_i, cmp_ii, lt_ii, le_ii, gt_ii, ge_ii, le_cc, muls_ii, muls_si, ins_cs, iadd_ii, isub_ii, w_onone, w_osome, w_sl, sl_s, sl_t, s_aug, eq_ss, len_s, ix_s, add_ss, str_s, tuple_t, list_t, is_n, not_n, non_n, non_i, non_b, non_s, non_t, non_r, abs_i, max_ii, min_ii, int_i, int_b, gcd_ii, len_t, ix_t, eq_v, ne_v, eq_ii, eq_bb, eq_nn, eq_in, eq_ni, iv_n_list, iv_n_tuple, iv_n_bool, iv_n_str, iv_n_int, okt_n, iv_b_list, iv_b_tuple, iv_b_bool, iv_b_str, iv_b_int, okt_b, iv_i_list, iv_i_tuple, iv_i_bool, iv_i_str, iv_i_int, okt_i, iv_s_list, iv_s_tuple, iv_s_bool, iv_s_str, iv_s_int, okt_s, iv_t_list, iv_t_tuple, iv_t_bool, iv_t_str, iv_t_int, okt_t, iv_r_list, iv_r_tuple, iv_r_bool, iv_r_str, iv_r_int, tru_b, tru_i, tru_n, tru_t, Option.map_some, Option.map_none, List.map_cons, List.map_nil, List.length_cons, List.length_nil, List.set_cons_zero, List.set_cons_succ, List.cons_append, List.nil_append, List.replicate, Nat.reduceAdd, Nat.reduceSub, Nat.reduceLeDiff, true_and, and_true, decide_eq_true_eq, reduceIte, Bool.false_eq_true, Bool.not_true, Bool.not_false, decide_true, decide_false]
  rw [s_seq]
  walk_at "w0"
  refine w_make ?_
  try simp -dsimp only [cl0_r, cl1_r, cl2_r, cl_add eB, at0, at1, at2, at3, at4, at5, at6, wp_fn, s_nil, s_brk, s_cnt, s_expr, s_ret, s_retN, s_if, s_asn, s_par, s_asg, g_nm, g_nil, g_cons, g_tupT, g_subW, w_v0, w_vS, w_c, w_op, w_un, w_anil, w_acons, w_tup, w_lst, w_call, w_callU, w_isi, w_meth, w_tru, w_bool, w_notS, w_andS, w_orS, w_ifx, w_andV, w_orV, w_notV, w_chain, wp_ok, wp_bad, wp_some, wp_none, wp_liftif, wp_if, asB_b, wp_noex, add_ii, sub_ii, mul_ii, fdiv_ii, mod_ii, pow_ii, neg_i, cmp_ii, lt_ii, le_ii, gt_ii, ge_ii, le_cc, muls_ii, muls_si, ins_cs, iadd_ii, isub_ii, w_onone, w_osome, w_sl, sl_s, sl_t, s_aug, eq_ss, len_s, ix_s, add_ss, str_s, tuple_t, list_t, is_n, not_n, non_n, non_i, non_b, non_s, non_t, non_r, abs_i, max_ii, min_ii, int_i, int_b, gcd_ii, len_t, ix_t, eq_v, ne_v, eq_ii, eq_bb, eq_nn, eq_in, eq_ni, iv_n_list, iv_n_tuple, iv_n_bool, iv_n_str, iv_n_int, okt_n, iv_b_list, iv_b_tuple, iv_b_bool, iv_b_str, iv_b_int, okt_b, iv_i_list, iv_i_tuple, iv_i_bool, iv_i_str, iv_i_int, okt_i, iv_s_list, iv_s_tuple, iv_s_bool, iv_s_str, iv_s_int, okt_s, iv_t_list, iv_t_tuple, iv_t_bool, iv_t_str, iv_t_int, okt_t, iv_r_list, iv_r_tuple, iv_r_bool, iv_r_str, iv_r_int, tru_b, tru_i, tru_n, tru_t, Option.map_some, Option.map_none, List.map_cons, List.map_nil, List.length_cons, List.length_nil, List.set_cons_zero, List.set_cons_succ, List.cons_append, List.nil_append, List.replicate, Nat.reduceAdd, Nat.reduceSub, Nat.reduceLeDiff, true_and, and_true, decide_eq_true_eq, reduceIte, Bool.false_eq_true, Bool.not_true, Bool.not_false, decide_true, decide_false]
  refine (make_bk (i := 4) (by decide) (by decide)).mono ?_
  rintro _ m8 ⟨rfl, K8, G8⟩
  walk_at "w0"
  rw [s_seq]
  walk_at "w0"
  have k8 := (k3.gr G).gr G8
  refine (merged_other k8 (merge_other k8 K8 fun m => club_ne hC eB)).mono ?_
  rintro _ m9 ⟨rfl, G9⟩
  have G39 := (G.trans G8).trans G9
  try simp -dsimp only [w_methB, at0, at1, at2, at3, at4, at5, at6, wp_fn, s_nil, s_brk, s_cnt, s_expr, s_ret, s_retN, s_if, s_asn, s_par, s_asg, g_nm, g_nil, g_cons, g_tupT, g_subW, w_v0, w_vS, w_c, w_op, w_un, w_anil, w_acons, w_tup, w_lst, w_call, w_callU, w_isi, w_meth, w_tru, w_bool, w_notS, w_andS, w_orS, w_ifx, w_andV, w_orV, w_notV, w_chain, wp_ok, wp_bad, wp_some, wp_none, wp_liftif, wp_if, asB_b, wp_noex, add_ii, sub_ii, mul_ii, fdiv_ii, mod_ii, pow_ii, neg_i, cmp_ii, lt_ii, le_ii, gt_ii, ge_ii, le_cc, muls_ii, muls_si, ins_cs, iadd_ii, isub_ii, w_onone, w_osome, w_sl, sl_s, sl_t, s_aug, eq_ss, len_s, ix_s, add_ss, str_s, tuple_t, list_t, is_n, not_n, non_n, non_i, non_b, non_s, non_t, non_r, abs_i, max_ii, min_ii, int_i, int_b, gcd_ii, len_t, ix_t, eq_v, ne_v, eq_ii, eq_bb, eq_nn, eq_in, eq_ni, iv_n_list, iv_n_tuple, iv_n_bool, iv_n_str, iv_n_int, okt_n, iv_b_list, iv_b_tuple, iv_b_bool, iv_b_str, iv_b_int, okt_b, iv_i_list, iv_i_tuple, iv_i_bool, iv_i_str, iv_i_int, okt_i, iv_s_list, iv_s_tuple, iv_s_bool, iv_s_str, iv_s_int, okt_s, iv_t_list, iv_t_tuple, iv_t_bool, iv_t_str, iv_t_int, okt_t, iv_r_list, iv_r_tuple, iv_r_bool, iv_r_str, iv_r_int, tru_b, tru_i, tru_n, tru_t, Option.map_some, Option.map_none, List.map_cons, List.map_nil, List.length_cons, List.length_nil, List.set_cons_zero, List.set_cons_succ, List.cons_append, List.nil_append, List.replicate, Nat.reduceAdd, Nat.reduceSub, Nat.reduceLeDiff, true_and, and_true, decide_eq_true_eq, reduceIte, Bool.false_eq_true, Bool.not_true, Bool.not_false, decide_true, decide_false]
  refine ⟨isIns_r (k3.gr G39).ob, (held_ok (k3.gr G39)).mono ?_⟩
  rintro _ _ ⟨rfl, rfl⟩
  try simp -dsimp only [held G39, at0, at1, at2, at3, at4, at5, at6, wp_fn, s_nil, s_brk, s_cnt, s_expr, s_ret, s_retN, s_if, s_asn, s_par, s_asg, g_nm, g_nil, g_cons, g_tupT, g_subW, w_v0, w_vS, w_c, w_op, w_un, w_anil, w_acons, w_tup, w_lst, w_call, w_callU, w_isi, w_meth, w_tru, w_bool, w_notS, w_andS, w_orS, w_ifx, w_andV, w_orV, w_notV, w_chain, wp_ok, wp_bad, wp_some, wp_none, wp_liftif, wp_if, asB_b, wp_noex, add_ii, sub_ii, mul_ii, fdiv_ii, mod_ii, pow_ii, neg_i, cmp_ii, lt_ii, le_ii, gt_ii, ge_ii, le_cc, muls_ii, muls_si, ins_cs, iadd_ii, isub_ii, w_onone, w_osome, w_sl, sl_s, sl_t, s_aug, eq_ss, len_s, ix_s, add_ss, str_s, tuple_t, list_t, is_n, not_n, non_n, non_i, non_b, non_s, non_t, non_r, abs_i, max_ii, min_ii, int_i, int_b, gcd_ii, len_t, ix_t, eq_v, ne_v, eq_ii, eq_bb, eq_nn, eq_in, eq_ni, iv_n_list, iv_n_tuple, iv_n_bool, iv_n_str, iv_n_int, okt_n, iv_b_list, iv_b_tuple, iv_b_bool, iv_b_str, iv_b_int, okt_b, iv_i_list, iv_i_tuple, iv_i_bool, iv_i_str, iv_i_int, okt_i, iv_s_list, iv_s_tuple, iv_s_bool, iv_s_str, iv_s_int, okt_s, iv_t_list, iv_t_tuple, iv_t_bool, iv_t_str, iv_t_int, okt_t, iv_r_list, iv_r_tuple, iv_r_bool, iv_r_str, iv_r_int, tru_b, tru_i, tru_n, tru_t, Option.map_some, Option.map_none, List.map_cons, List.map_nil, List.length_cons, List.length_nil, List.set_cons_zero, List.set_cons_succ, List.cons_append, List.nil_append, List.replicate, Nat.reduceAdd, Nat.reduceSub, Nat.reduceLeDiff, true_and, and_true, decide_eq_true_eq, reduceIte, Bool.false_eq_true, Bool.not_true, Bool.not_false, decide_true, decide_false]
  have G := G39.push (MO.lst (xs.map Tl.pv))
  clear G8 G9 G39 K8 k8
  generalize m9 ++ [MO.lst (xs.map Tl.pv)] = mA at *
  generalize m7.length = sb at *
  rw [s_seq]
  walk_at "w0"
  refine w_make ?_
  walk_at "w0"
  refine (make_bk (i := 5) (by decide) (by decide)).mono ?_
  rintro _ mB ⟨rfl, KB, GB⟩
  have hfA : m3.length ≤ mA.length := G.len
  have G := G.trans GB
  walk_at "w0"
  rw [s_seq]
  generalize mA.length = fb at *
  refine s_for1W ?_
  walk_at "w0"
  refine ⟨80, rfl, by decide, by decide, fun j l m' => ∃ (x4 : Option PV) (us : List Tl), l = [some (.ref 0), some (clubPV L B R), some (.ref bw), some (.ref pb), x4, x5, some (.int bd.ring), some (.ref sb), some (.ref fb), none, none, none] ∧ us.length = j ∧ Bk m' fb (fb + 1) 5 (clubPV L B R) us ∧ (∀ u ∈ us, EnOk L B R u.e ∧ u.src = 5) ∧ Gr m3 m', ⟨_, [], rfl, rfl, KB, fun u h => (by cases h), G⟩, ?_, ?_⟩
  · clear KB GB G
    rintro j l m' hj ⟨x4, us, rfl, hul, K, hus, G⟩
    have hj : j < 80 := hj
    unfold law_l2
    walk_at "w0"
    rw [if_pos (by decide), fmod_pos (by decide)]
    have u0 := Int.emod_nonneg (j : Int) (show (9 : Int) ≠ 0 by decide)
    have u1 := Int.emod_lt_of_pos (j : Int) (show (0 : Int) < 9 by decide)
    generalize (j : Int) % 9 = u at *
    walk_at "w0"
    refine (told_ok (e := .stk 0 bd.ring u) K (by omega) fun m => isr_stk_ok hC hg u0 (by omega)).mono ?_
    rintro _ m4 ⟨rfl, K4, F4⟩
    walk_at "w0"
    refine ⟨_, _, rfl, by rw [List.length_append, hul]; rfl, K4, fun v hv => ?_, gr_frk G F4 (by omega)⟩
    rcases List.mem_append.mp hv with q | q
    · exact hus v q
    · rw [List.mem_singleton.mp q]
      exact ⟨⟨hC.r1, hg, u0, by omega⟩, rfl⟩
  clear KB GB G
  rintro l mC ⟨x4, us, rfl, hul, K, hus, G⟩
  have hul : us.length = 80 := hul
  walk_at "w1"
  rw [s_seq]
  walk_at "w0"
  refine (told_full K hul fun m => isr_stk_ok (u := 3) hC hg (by decide) (by decide)).mono ?_
  rintro _ mD ⟨rfl, GD⟩
  have K := K.gr GD
  have G := G.trans GD
  try simp -dsimp only [w_methB, at0, at1, at2, at3, at4, at5, at6, wp_fn, s_nil, s_brk, s_cnt, s_expr, s_ret, s_retN, s_if, s_asn, s_par, s_asg, g_nm, g_nil, g_cons, g_tupT, g_subW, w_v0, w_vS, w_c, w_op, w_un, w_anil, w_acons, w_tup, w_lst, w_call, w_callU, w_isi, w_meth, w_tru, w_bool, w_notS, w_andS, w_orS, w_ifx, w_andV, w_orV, w_notV, w_chain, wp_ok, wp_bad, wp_some, wp_none, wp_liftif, wp_if, asB_b, wp_noex, add_ii, sub_ii, mul_ii, fdiv_ii, mod_ii, pow_ii, neg_i, cmp_ii, lt_ii, le_ii, gt_ii, ge_ii, le_cc, muls_ii, muls_si, ins_cs, iadd_ii, isub_ii, w_onone, w_osome, w_sl, sl_s, sl_t, s_aug, eq_ss, len_s, ix_s, add_ss, str_s, tuple_t, list_t, is_n, not_n, non_n, non_i, non_b, non_s, non_t, non_r, abs_i, max_ii, min_ii, int_i, int_b, gcd_ii, len_t, ix_t, eq_v, ne_v, eq_ii, eq_bb, eq_nn, eq_in, eq_ni, iv_n_list, iv_n_tuple, iv_n_bool, iv_n_str, iv_n_int, okt_n, iv_b_list, iv_b_tuple, iv_b_bool, iv_b_str, iv_b_int, okt_b, iv_i_list, iv_i_tuple, iv_i_bool, iv_i_str, iv_i_int, okt_i, iv_s_list, iv_s_tuple, iv_s_bool, iv_s_str, iv_s_int, okt_s, iv_t_list, iv_t_tuple, iv_t_bool, iv_t_str, iv_t_int, okt_t, iv_r_list, iv_r_tuple, iv_r_bool, iv_r_str, iv_r_int, tru_b, tru_i, tru_n, tru_t, Option.map_some, Option.map_none, List.map_cons, List.map_nil, List.length_cons, List.length_nil, List.set_cons_zero, List.set_cons_succ, List.cons_append, List.nil_append, List.replicate, Nat.reduceAdd, Nat.reduceSub, Nat.reduceLeDiff, true_and, and_true, decide_eq_true_eq, reduceIte, Bool.false_eq_true, Bool.not_true, Bool.not_false, decide_true, decide_false]
  refine ⟨isIns_r K.ob, (held_ok K).mono ?_⟩
  rintro _ _ ⟨rfl, rfl⟩
  try simp -dsimp only [len_r (seq_of_lst (get_new (m := mD) (o := MO.lst (us.map Tl.pv)))), List.length_map, hul, at0, at1, at2, at3, at4, at5, at6, wp_fn, s_nil, s_brk, s_cnt, s_expr, s_ret, s_retN, s_if, s_asn, s_par, s_asg, g_nm, g_nil, g_cons, g_tupT, g_subW, w_v0, w_vS, w_c, w_op, w_un, w_anil, w_acons, w_tup, w_lst, w_call, w_callU, w_isi, w_meth, w_tru, w_bool, w_notS, w_andS, w_orS, w_ifx, w_andV, w_orV, w_notV, w_chain, wp_ok, wp_bad, wp_some, wp_none, wp_liftif, wp_if, asB_b, wp_noex, add_ii, sub_ii, mul_ii, fdiv_ii, mod_ii, pow_ii, neg_i, cmp_ii, lt_ii, le_ii, gt_ii, ge_ii, le_cc, muls_ii, muls_si, ins_cs, iadd_ii, isub_ii, w_onone, w_osome, w_sl, sl_s, sl_t, s_aug, eq_ss, len_s, ix_s, add_ss, str_s, tuple_t, list_t, is_n, not_n, non_n, non_i, non_b, non_s, non_t, non_r, abs_i, max_ii, min_ii, int_i, int_b, gcd_ii, len_t, ix_t, eq_v, ne_v, eq_ii, eq_bb, eq_nn, eq_in, eq_ni, iv_n_list, iv_n_tuple, iv_n_bool, iv_n_str, iv_n_int, okt_n, iv_b_list, iv_b_tuple, iv_b_bool, iv_b_str, iv_b_int, okt_b, iv_i_list, iv_i_tuple, iv_i_bool, iv_i_str, iv_i_int, okt_i, iv_s_list, iv_s_tuple, iv_s_bool, iv_s_str, iv_s_int, okt_s, iv_t_list, iv_t_tuple, iv_t_bool, iv_t_str, iv_t_int, okt_t, iv_r_list, iv_r_tuple, iv_r_bool, iv_r_str, iv_r_int, tru_b, tru_i, tru_n, tru_t, Option.map_some, Option.map_none, List.map_cons, List.map_nil, List.length_cons, List.length_nil, List.set_cons_zero, List.set_cons_succ, List.cons_append, List.nil_append, List.replicate, Nat.reduceAdd, Nat.reduceSub, Nat.reduceLeDiff, true_and, and_true, decide_eq_true_eq, reduceIte, Bool.false_eq_true, Bool.not_true, Bool.not_false, decide_true, decide_false]
  have K := K.gr (Gr.one (o := MO.lst (us.map Tl.pv)))
  have G := G.push (MO.lst (us.map Tl.pv))
  clear GD
  generalize mD ++ [MO.lst (us.map Tl.pv)] = mE at *
  rw [if_neg (by decide)]
  rw [s_seq]
  walk_at "w0"
  refine (cell_ok (seq_fr (G.frk (k := 1)) (by decide) h3) (by decide)).mono ?_
  rintro _ mE ⟨rfl, rfl⟩
  walk_at "w0"
  refine (wrong_ok hC).mono ?_
  rintro x mF ⟨kd, r, rfl, hr, GF⟩
  have K := K.gr GF
  have G := G.trans GF
  walk_at "w0"
  rw [s_seq]
  walk_at "w0"
  refine (told_bad rfl K hr).mono ?_
  rintro _ mH ⟨rfl, GH⟩
  have K := K.gr GH
  have G := G.trans GH
  walk_at "w0"
  rw [s_seq]
  have PB' := G.get _ _ PB
  try simp -dsimp only [len_r (seq_of_lst PB'), List.length_map, at0, at1, at2, at3, at4, at5, at6, wp_fn, s_nil, s_brk, s_cnt, s_expr, s_ret, s_retN, s_if, s_asn, s_par, s_asg, g_nm, g_nil, g_cons, g_tupT, g_subW, w_v0, w_vS, w_c, w_op, w_un, w_anil, w_acons, w_tup, w_lst, w_call, w_callU, w_isi, w_meth, w_tru, w_bool, w_notS, w_andS, w_orS, w_ifx, w_andV, w_orV, w_notV, w_chain, wp_ok, wp_bad, wp_some, wp_none, wp_liftif, wp_if, asB_b, wp_noex, add_ii, sub_ii, mul_ii, fdiv_ii, mod_ii, pow_ii, neg_i, cmp_ii, lt_ii, le_ii, gt_ii, ge_ii, le_cc, muls_ii, muls_si, ins_cs, iadd_ii, isub_ii, w_onone, w_osome, w_sl, sl_s, sl_t, s_aug, eq_ss, len_s, ix_s, add_ss, str_s, tuple_t, list_t, is_n, not_n, non_n, non_i, non_b, non_s, non_t, non_r, abs_i, max_ii, min_ii, int_i, int_b, gcd_ii, len_t, ix_t, eq_v, ne_v, eq_ii, eq_bb, eq_nn, eq_in, eq_ni, iv_n_list, iv_n_tuple, iv_n_bool, iv_n_str, iv_n_int, okt_n, iv_b_list, iv_b_tuple, iv_b_bool, iv_b_str, iv_b_int, okt_b, iv_i_list, iv_i_tuple, iv_i_bool, iv_i_str, iv_i_int, okt_i, iv_s_list, iv_s_tuple, iv_s_bool, iv_s_str, iv_s_int, okt_s, iv_t_list, iv_t_tuple, iv_t_bool, iv_t_str, iv_t_int, okt_t, iv_r_list, iv_r_tuple, iv_r_bool, iv_r_str, iv_r_int, tru_b, tru_i, tru_n, tru_t, Option.map_some, Option.map_none, List.map_cons, List.map_nil, List.length_cons, List.length_nil, List.set_cons_zero, List.set_cons_succ, List.cons_append, List.nil_append, List.replicate, Nat.reduceAdd, Nat.reduceSub, Nat.reduceLeDiff, true_and, and_true, decide_eq_true_eq, reduceIte, Bool.false_eq_true, Bool.not_true, Bool.not_false, decide_true, decide_false]
  by_cases hx : xs.length = 0
  · have hx : xs = [] := List.eq_nil_of_length_eq_zero hx
    subst hx
    rw [if_neg (by simp)]
    walk_at "w0"
    refine (merged_ok (Q := fun _ => True) (k3.gr G) ((merge_ok hC (k3.gr G) K List.nodup_nil (fun t h => by cases h) (fun u hu => (hus u hu).1) (by simp; omega) (G.get _ _ T3)).mono fun _ _ _ => trivial)).mono ?_
    rintro _ mI ⟨rfl, _⟩
    walk_at "w0"
  rw [if_pos (by omega)]
  walk_at "w0"
  rw [s_seq]
  walk_at "w0"
  refine (merged_many (k3.gr G) (merge_many hC (k3.gr G) K nd (by omega) (by omega) (G.get _ _ T3) (fun u hu z => ?_) (by omega))).mono ?_
  · obtain ⟨t, ht, e⟩ := List.mem_map.mp z
    have h1 := hst t ht
    have h2 := (hus u hu).2
    unfold Tl.key at e
    injection e with _ e
    injection e with e _
    omega
  rintro _ mI ⟨rfl, GI'⟩
  have G := G.trans GI'
  try simp -dsimp only [w_methB, at0, at1, at2, at3, at4, at5, at6, wp_fn, s_nil, s_brk, s_cnt, s_expr, s_ret, s_retN, s_if, s_asn, s_par, s_asg, g_nm, g_nil, g_cons, g_tupT, g_subW, w_v0, w_vS, w_c, w_op, w_un, w_anil, w_acons, w_tup, w_lst, w_call, w_callU, w_isi, w_meth, w_tru, w_bool, w_notS, w_andS, w_orS, w_ifx, w_andV, w_orV, w_notV, w_chain, wp_ok, wp_bad, wp_some, wp_none, wp_liftif, wp_if, asB_b, wp_noex, add_ii, sub_ii, mul_ii, fdiv_ii, mod_ii, pow_ii, neg_i, cmp_ii, lt_ii, le_ii, gt_ii, ge_ii, le_cc, muls_ii, muls_si, ins_cs, iadd_ii, isub_ii, w_onone, w_osome, w_sl, sl_s, sl_t, s_aug, eq_ss, len_s, ix_s, add_ss, str_s, tuple_t, list_t, is_n, not_n, non_n, non_i, non_b, non_s, non_t, non_r, abs_i, max_ii, min_ii, int_i, int_b, gcd_ii, len_t, ix_t, eq_v, ne_v, eq_ii, eq_bb, eq_nn, eq_in, eq_ni, iv_n_list, iv_n_tuple, iv_n_bool, iv_n_str, iv_n_int, okt_n, iv_b_list, iv_b_tuple, iv_b_bool, iv_b_str, iv_b_int, okt_b, iv_i_list, iv_i_tuple, iv_i_bool, iv_i_str, iv_i_int, okt_i, iv_s_list, iv_s_tuple, iv_s_bool, iv_s_str, iv_s_int, okt_s, iv_t_list, iv_t_tuple, iv_t_bool, iv_t_str, iv_t_int, okt_t, iv_r_list, iv_r_tuple, iv_r_bool, iv_r_str, iv_r_int, tru_b, tru_i, tru_n, tru_t, Option.map_some, Option.map_none, List.map_cons, List.map_nil, List.length_cons, List.length_nil, List.set_cons_zero, List.set_cons_succ, List.cons_append, List.nil_append, List.replicate, Nat.reduceAdd, Nat.reduceSub, Nat.reduceLeDiff, true_and, and_true, decide_eq_true_eq, reduceIte, Bool.false_eq_true, Bool.not_true, Bool.not_false, decide_true, decide_false]
  refine ⟨isIns_r (k3.gr G).ob, (held_ok (k3.gr G)).mono ?_⟩
  rintro _ _ ⟨rfl, rfl⟩
  try simp -dsimp only [held G, at0, at1, at2, at3, at4, at5, at6, wp_fn, s_nil, s_brk, s_cnt, s_expr, s_ret, s_retN, s_if, s_asn, s_par, s_asg, g_nm, g_nil, g_cons, g_tupT, g_subW, w_v0, w_vS, w_c, w_op, w_un, w_anil, w_acons, w_tup, w_lst, w_call, w_callU, w_isi, w_meth, w_tru, w_bool, w_notS, w_andS, w_orS, w_ifx, w_andV, w_orV, w_notV, w_chain, wp_ok, wp_bad, wp_some, wp_none, wp_liftif, wp_if, asB_b, wp_noex, add_ii, sub_ii, mul_ii, fdiv_ii, mod_ii, pow_ii, neg_i, cmp_ii, lt_ii, le_ii, gt_ii, ge_ii, le_cc, muls_ii, muls_si, ins_cs, iadd_ii, isub_ii, w_onone, w_osome, w_sl, sl_s, sl_t, s_aug, eq_ss, len_s, ix_s, add_ss, str_s, tuple_t, list_t, is_n, not_n, non_n, non_i, non_b, non_s, non_t, non_r, abs_i, max_ii, min_ii, int_i, int_b, gcd_ii, len_t, ix_t, eq_v, ne_v, eq_ii, eq_bb, eq_nn, eq_in, eq_ni, iv_n_list, iv_n_tuple, iv_n_bool, iv_n_str, iv_n_int, okt_n, iv_b_list, iv_b_tuple, iv_b_bool, iv_b_str, iv_b_int, okt_b, iv_i_list, iv_i_tuple, iv_i_bool, iv_i_str, iv_i_int, okt_i, iv_s_list, iv_s_tuple, iv_s_bool, iv_s_str, iv_s_int, okt_s, iv_t_list, iv_t_tuple, iv_t_bool, iv_t_str, iv_t_int, okt_t, iv_r_list, iv_r_tuple, iv_r_bool, iv_r_str, iv_r_int, tru_b, tru_i, tru_n, tru_t, Option.map_some, Option.map_none, List.map_cons, List.map_nil, List.length_cons, List.length_nil, List.set_cons_zero, List.set_cons_succ, List.cons_append, List.nil_append, List.replicate, Nat.reduceAdd, Nat.reduceSub, Nat.reduceLeDiff, true_and, and_true, decide_eq_true_eq, reduceIte, Bool.false_eq_true, Bool.not_true, Bool.not_false, decide_true, decide_false]
  have G := G.push (MO.lst (xs.map Tl.pv))
  generalize mI ++ [MO.lst (xs.map Tl.pv)] = mJ at *
  obtain ⟨ys, t, ex⟩ : ∃ ys t, xs = ys ++ [t] := ⟨xs.dropLast, xs.getLast (fun z => hx (by rw [z]; rfl)), (List.dropLast_concat_getLast _).symm⟩
  have ht := hst t (by rw [ex]; simp)
  rw [s_seq]
  refine s_forLW ?_
  try simp -dsimp only [last_r (G.get _ _ PB) ex, st_r, at0, at1, at2, at3, at4, at5, at6, wp_fn, s_nil, s_brk, s_cnt, s_expr, s_ret, s_retN, s_if, s_asn, s_par, s_asg, g_nm, g_nil, g_cons, g_tupT, g_subW, w_v0, w_vS, w_c, w_op, w_un, w_anil, w_acons, w_tup, w_lst, w_call, w_callU, w_isi, w_meth, w_tru, w_bool, w_notS, w_andS, w_orS, w_ifx, w_andV, w_orV, w_notV, w_chain, wp_ok, wp_bad, wp_some, wp_none, wp_liftif, wp_if, asB_b, wp_noex, add_ii, sub_ii, mul_ii, fdiv_ii, mod_ii, pow_ii, neg_i, cmp_ii, lt_ii, le_ii, gt_ii, ge_ii, le_cc, muls_ii, muls_si, ins_cs, iadd_ii, isub_ii, w_onone, w_osome, w_sl, sl_s, sl_t, s_aug, eq_ss, len_s, ix_s, add_ss, str_s, tuple_t, list_t, is_n, not_n, non_n, non_i, non_b, non_s, non_t, non_r, abs_i, max_ii, min_ii, int_i, int_b, gcd_ii, len_t, ix_t, eq_v, ne_v, eq_ii, eq_bb, eq_nn, eq_in, eq_ni, iv_n_list, iv_n_tuple, iv_n_bool, iv_n_str, iv_n_int, okt_n, iv_b_list, iv_b_tuple, iv_b_bool, iv_b_str, iv_b_int, okt_b, iv_i_list, iv_i_tuple, iv_i_bool, iv_i_str, iv_i_int, okt_i, iv_s_list, iv_s_tuple, iv_s_bool, iv_s_str, iv_s_int, okt_s, iv_t_list, iv_t_tuple, iv_t_bool, iv_t_str, iv_t_int, okt_t, iv_r_list, iv_r_tuple, iv_r_bool, iv_r_str, iv_r_int, tru_b, tru_i, tru_n, tru_t, Option.map_some, Option.map_none, List.map_cons, List.map_nil, List.length_cons, List.length_nil, List.set_cons_zero, List.set_cons_succ, List.cons_append, List.nil_append, List.replicate, Nat.reduceAdd, Nat.reduceSub, Nat.reduceLeDiff, true_and, and_true, decide_eq_true_eq, reduceIte, Bool.false_eq_true, Bool.not_true, Bool.not_false, decide_true, decide_false]
  have PL := get_new (m := mJ) (o := MO.lst [.int t.st, .int 80])
  have G := G.push (MO.lst [.int t.st, .int 80])
  generalize mJ ++ [MO.lst [.int t.st, .int 80]] = mK at *
  generalize mJ.length = lb at *
  clear K hus hul GI'
  refine ⟨lb, _, rfl, seq_of_lst PL, fun j l m' => ∃ x9 x10 x11 : Option PV, l = [some (.ref 0), some (clubPV L B R), some (.ref bw), some (.ref pb), x4, some (.tup (.str kd :: r)), some (.int bd.ring), some (.ref sb), some (.ref fb), x9, x10, x11] ∧ Gr mK m', ⟨_, _, _, rfl, Gr.refl⟩, ?_, ?_, ?_⟩
  · rintro j l m' ⟨x9, x10, x11, rfl, G'⟩
    exact seq_of_lst (G'.get _ _ PL)
  · rintro j x l m' hx' ⟨x9, x10, x11, rfl, G'⟩
    obtain ⟨v, rfl, v1, v2⟩ : ∃ v, x = .int v ∧ t.st ≤ v ∧ v ≤ 80 := by
      have hm := List.mem_of_getElem? hx'
      simp only [List.mem_cons, List.not_mem_nil, or_false] at hm
      rcases hm with rfl | rfl
      · exact ⟨_, rfl, Int.le_refl _, by omega⟩
      · exact ⟨_, rfl, by omega, Int.le_refl _⟩
    have G2 := G.trans G'
    walk_at "w0"
    refine (false_ok hC hg (G2.get _ _ T3) (k3.gr G2) nd hl ok (G2.get _ _ PB) hd ex ht v1 v2).mono ?_ (fun _ _ h => h.elim) (fun _ _ h => h.elim) (fun _ _ h => h.elim) (fun _ _ _ _ h => h.elim)
    rintro l' m4 ⟨y10, y11, rfl, G4⟩
    exact ⟨_, _, _, rfl, G'.trans G4⟩
  · rintro l m' ⟨x9, x10, x11, rfl, G'⟩
    walk_at "w0"
end Lw
open PySem PySem.W PyProof.Rows
set_option maxHeartbeats 0 in
theorem PySem.Challenge.cw_homingtrue_k44_refused_entries_and_books_holds : PySem.Challenge.rw_homingtrue_k44_refused_entries_and_books.Holds := by
  w_on; o_law; k_head; (case hw => w_witness2)
  k_fill
  refine LamX.walk_ofTs (l := PySem.Challenge.rw_homingtrue_k44_refused_entries_and_books) (n := 63) (k := 8) (x := "script") (CX := fun _ => L2.CX0) rfl (by decide) rfl ⟨rfl, by decide, by decide⟩ (fun w h Y => PySem.W.km_in_of Y) ?F (fun _ _ _ _ _ h => h)
  case F =>
    intro w mg fa h Y KX G hmg
    have hT8 := PySem.W.km_tabs_of Y
    refine' Lw.all_mk KX G hmg ?zB_Book ?pgB_Book ?hdB_Book ?poB_Book ?saB_Book ?n0B_Book ?n1B_Book ?n2B_Book ?mkB_Book ?kpB_Book ?a0 ?l0 ?c0 ?k0 ?a1 ?i1 ?l1 ?c1 ?k1 ?a2 ?i2 ?l2 ?c2 ?k2 ?a3 ?l3 ?c3 ?k3 ?a4 ?l4 ?c4 ?k4 ?a5 ?l5 ?c5 ?k5 ?a6 ?l6 ?c6 ?k6 ?a7 ?l7 ?c7 ?k7 ?a8 ?l8 ?c8 ?k8 ?a9 ?l9 ?c9 ?k9 ?a10 ?l10 ?c10 ?k10 ?a11 ?l11 ?c11 ?k11 ?a12 ?l12 ?c12 ?k12 ?a13 ?i13 ?l13 ?c13 ?k13 ?a14 ?i14 ?l14 ?c14 ?k14 ?a15 ?i15 ?l15 ?c15 ?k15 ?ho15 ?nl15 ?hh15 ?a16 ?i16 ?l16 ?c16 ?k16 ?a17 ?l17 ?c17 ?k17 ?a18 ?l18 ?c18 ?k18 ?a19 ?l19 ?c19 ?k19 ?a20 ?l20 ?c20 ?k20 ?a21 ?l21 ?c21 ?k21 ?a22 ?l22 ?c22 ?k22 ?a23 ?l23 ?c23 ?k23 ?a24 ?l24 ?c24 ?k24 ?a25 ?l25 ?c25 ?k25 ?a26 ?l26 ?c26 ?k26 ?a27 ?l27 ?c27 ?k27 ?zC_TooMany ?cC_TooMany ?sa_TooMany ?exC_TooMany ?tyC_TooMany ?kC_TooMany ?iC_TooMany ?tI_TooMany ?no_TooMany ?ga_TooMany ?gg_TooMany ?hdC_TooMany ?icC_TooMany ?ssC_TooMany ?lI_TooMany ?cdI_TooMany ?kI_TooMany ?zC_BadClock ?cC_BadClock ?sa_BadClock ?exC_BadClock ?tyC_BadClock ?kC_BadClock ?iC_BadClock ?tI_BadClock ?no_BadClock ?ga_BadClock ?gg_BadClock ?hdC_BadClock ?icC_BadClock ?ssC_BadClock ?lI_BadClock ?cdI_BadClock ?kI_BadClock ?zC_BadEvent ?cC_BadEvent ?sa_BadEvent ?exC_BadEvent ?tyC_BadEvent ?kC_BadEvent ?iC_BadEvent ?tI_BadEvent ?no_BadEvent ?ga_BadEvent ?gg_BadEvent ?hdC_BadEvent ?icC_BadEvent ?ssC_BadEvent ?lI_BadEvent ?cdI_BadEvent ?kI_BadEvent ?zC_OtherClub ?qC_OtherClub ?kC_OtherClub ?exC_OtherClub ?tyC_OtherClub ?icC_OtherClub ?ssC_OtherClub ?ss_TooMany_OtherClub ?ss_TooMany_BadEvent ?z_type ?z_int ?z_list ?z_len ?z_isinstance ?z_str ?z_max ?z_sorted ?z_range ?z_tuple ?z_MOST_SOURCES ?z_LONGEST_NUMBER ?z_LONGEST_WORD ?z_LAST_MINUTE ?z_MOST_UNITS ?z_LAST_READING ?z_MOST_TELLINGS ?z_KINDS ?y1_KINDS ?z_SIZES ?kd_SIZES ?e0_SIZES ?e1_SIZES ?e2_SIZES ?e3_SIZES Lw.goal
    (case zB_Book => k_is); (case pgB_Book => k_is); (case hdB_Book => k_is); (case poB_Book => k_is); (case saB_Book => k_is); (case n0B_Book => k_is); (case n1B_Book => k_is); (case n2B_Book => k_is); (case mkB_Book => k_is); (case kpB_Book => k_is); (case a0 => k_is); (case l0 => k_is); (case c0 => k_is); (case k0 => k_is); (case a1 => k_is); (case i1 => k_is); (case l1 => k_is); (case c1 => k_is); (case k1 => k_is); (case a2 => k_is); (case i2 => k_is); (case l2 => k_is); (case c2 => k_is); (case k2 => k_is); (case a3 => k_is); (case l3 => k_is); (case c3 => k_is); (case k3 => k_is); (case a4 => k_is); (case l4 => k_is); (case c4 => k_is); (case k4 => k_is); (case a5 => k_is); (case l5 => k_is); (case c5 => k_is); (case k5 => k_is); (case a6 => k_is); (case l6 => k_is); (case c6 => k_is); (case k6 => k_is); (case a7 => k_is); (case l7 => k_is); (case c7 => k_is); (case k7 => k_is); (case a8 => k_is); (case l8 => k_is); (case c8 => k_is); (case k8 => k_is); (case a9 => k_is); (case l9 => k_is); (case c9 => k_is); (case k9 => k_is); (case a10 => k_is); (case l10 => k_is); (case c10 => k_is); (case k10 => k_is); (case a11 => k_is); (case l11 => k_is); (case c11 => k_is); (case k11 => k_is); (case a12 => k_is); (case l12 => k_is); (case c12 => k_is); (case k12 => k_is); (case a13 => k_is); (case i13 => k_is); (case l13 => k_is); (case c13 => k_is); (case k13 => k_is); (case a14 => k_is); (case i14 => k_is); (case l14 => k_is); (case c14 => k_is); (case k14 => k_is); (case a15 => k_is); (case i15 => k_is); (case l15 => k_is); (case c15 => k_is); (case k15 => k_is); (case ho15 => exact hT8 182 (by k_mem)); (case nl15 => kernel_rfl); (case hh15 => kernel_rfl); (case a16 => k_is); (case i16 => k_is); (case l16 => k_is); (case c16 => k_is); (case k16 => k_is); (case a17 => k_is); (case l17 => k_is); (case c17 => k_is); (case k17 => k_is); (case a18 => k_is); (case l18 => k_is); (case c18 => k_is); (case k18 => k_is); (case a19 => k_is); (case l19 => k_is); (case c19 => k_is); (case k19 => k_is); (case a20 => k_is); (case l20 => k_is); (case c20 => k_is); (case k20 => k_is); (case a21 => k_is); (case l21 => k_is); (case c21 => k_is); (case k21 => k_is); (case a22 => k_is); (case l22 => k_is); (case c22 => k_is); (case k22 => k_is); (case a23 => k_is); (case l23 => k_is); (case c23 => k_is); (case k23 => k_is); (case a24 => k_is); (case l24 => k_is); (case c24 => k_is); (case k24 => k_is); (case a25 => k_is); (case l25 => k_is); (case c25 => k_is); (case k25 => k_is); (case a26 => k_is); (case l26 => k_is); (case c26 => k_is); (case k26 => k_is); (case a27 => k_is); (case l27 => k_is); (case c27 => k_is); (case k27 => k_is); (case zC_TooMany => k_is); (case cC_TooMany => exact ⟨_, _, _, _, _, _, _, _, _, _, _, _, _, _, _, by k_is, by decide +kernel⟩); (case sa_TooMany => k_is); (case exC_TooMany => k_is); (case tyC_TooMany => k_is); (case kC_TooMany => k_is); (case iC_TooMany => k_is); (case tI_TooMany => k_is); (case no_TooMany => k_is); (case ga_TooMany => k_is); (case gg_TooMany => k_is); (case hdC_TooMany => k_is); (case icC_TooMany => k_is); (case ssC_TooMany => k_is); (case lI_TooMany => k_is); (case cdI_TooMany => k_is); (case kI_TooMany => k_is); (case zC_BadClock => k_is); (case cC_BadClock => exact ⟨_, _, _, _, _, _, _, _, _, _, _, _, _, _, _, by k_is, by decide +kernel⟩); (case sa_BadClock => k_is); (case exC_BadClock => k_is); (case tyC_BadClock => k_is); (case kC_BadClock => k_is); (case iC_BadClock => k_is); (case tI_BadClock => k_is); (case no_BadClock => k_is); (case ga_BadClock => k_is); (case gg_BadClock => k_is); (case hdC_BadClock => k_is); (case icC_BadClock => k_is); (case ssC_BadClock => k_is); (case lI_BadClock => k_is); (case cdI_BadClock => k_is); (case kI_BadClock => k_is); (case zC_BadEvent => k_is); (case cC_BadEvent => exact ⟨_, _, _, _, _, _, _, _, _, _, _, _, _, _, _, by k_is, by decide +kernel⟩); (case sa_BadEvent => k_is); (case exC_BadEvent => k_is); (case tyC_BadEvent => k_is); (case kC_BadEvent => k_is); (case iC_BadEvent => k_is); (case tI_BadEvent => k_is); (case no_BadEvent => k_is); (case ga_BadEvent => k_is); (case gg_BadEvent => k_is); (case hdC_BadEvent => k_is); (case icC_BadEvent => k_is); (case ssC_BadEvent => k_is); (case lI_BadEvent => k_is); (case cdI_BadEvent => k_is); (case kI_BadEvent => k_is); (case zC_OtherClub => k_is); (case qC_OtherClub => k_exc); (case kC_OtherClub => k_is); (case exC_OtherClub => k_is); (case tyC_OtherClub => k_is); (case icC_OtherClub => k_is); (case ssC_OtherClub => k_is); (case ss_TooMany_OtherClub => k_is); (case ss_TooMany_BadEvent => k_is); (case z_type => k_is); (case z_int => k_is); (case z_list => k_is); (case z_len => k_is); (case z_isinstance => k_is); (case z_str => k_is); (case z_max => k_is); (case z_sorted => k_is); (case z_range => k_is); (case z_tuple => k_is); (case z_MOST_SOURCES => k_is); (case z_LONGEST_NUMBER => k_is); (case z_LONGEST_WORD => k_is); (case z_LAST_MINUTE => k_is); (case z_MOST_UNITS => k_is); (case z_LAST_READING => k_is); (case z_MOST_TELLINGS => k_is); (case z_KINDS => k_is); (case y1_KINDS => k_is); (case z_SIZES => k_is); (case kd_SIZES => refine' ⟨_, _, ⟨?kda, ?kdb, ?kdc⟩⟩; (case kda => k_is); (case kdb => exact ⟨⟨_, _, rfl, rfl⟩, ⟨⟨_, _, rfl, rfl⟩, ⟨⟨_, _, rfl, rfl⟩, ⟨⟨_, _, rfl, rfl⟩, trivial⟩⟩⟩⟩); (case kdc => decide)); (case e0_SIZES => k_is); (case e1_SIZES => k_is); (case e2_SIZES => k_is); (case e3_SIZES => k_is)
