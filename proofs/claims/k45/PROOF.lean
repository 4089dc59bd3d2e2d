import PyProof.Rows.All
import Wide.All
import OpenK.AllK
import Wide.FinOn
import HandS.ForSpec
import HandS.Gcd
import HandS.IsInst
import HandS.Wide
import HandS.TupAny
import HandS.Deep
import HandS.NoneIn
import HandS.Walk
import HandS.Text
import HandS.Comp
import HandS.Steps
import HandS.HeadHook1
import HandS.RaiseMore
import HandS.SortInts
import HandS.More
import HandS.ExcInit
import HandS.ExcField
import HandS.ExcOwn
import HandS.WordsExc
import KE.GoesEnum
import HandS.Iter
import HandS.HotCalls
import KE.SortData
import KE.KTupSum
import HandS.DictEq
import HandS.Conv
import KE.SortKeyHeap
import HandS.SortKw
import HandS.Keys
import PyProof.Rows.PlainStore
import HandS.Style
import HandS.FStr
import HandS.Codes
import HandS.ReplaceLit
import HandS.ReplaceList
import HandS.SetFor
import HandS.DictComp
import PySem.Challenge.RW_homingtrue_k45_integers_and_records
set_option Elab.async false
set_option linter.all false
set_option maxRecDepth 100000
set_option maxHeartbeats 1000000
namespace SM
open PySem PySem.Spec PyProof.Rows L2

/-! values of the reckoning, its heap -/
inductive PV where
  | non | bl (b : Bool) | int (i : Int) | str (s : List Nat) | tup (xs : List PV) | ref (n : Nat)
inductive MO where
  | lst (xs : List PV) | frz (xs : List PV) | dct (kvs : List (List Int × PV)) | dck (kvs : List (Int × PV)) | frk (kvs : List (Int × PV))
abbrev MH := List MO
abbrev Loc := List (Option PV)
inductive R (α : Type) where
  | ok (a : α) (m : MH) | ex (c : String) (fs : List PV) (m : MH) | bad
inductive RS where
  | nx (l : Loc) (m : MH) | rt (x : PV) (m : MH) | bk (l : Loc) (m : MH) | ct (l : Loc) (m : MH) | ex (c : String) (fs : List PV) (l : Loc) (m : MH) | bad
def R.bind {α β : Type} (r : R α) (k : α → MH → R β) : R β := match r with
  | .ok a m => k a m
  | .ex c fs m => .ex c fs m
  | .bad => .bad
/-- the statement's end from an expression's -/
def R.then (l : Loc) (r : R α) (k : α → MH → RS) : RS := match r with
  | .ok a m => k a m
  | .ex c fs m => .ex c fs l m
  | .bad => .bad
def RS.seq (r : RS) (k : Loc → MH → RS) : RS := match r with
  | .nx l m => k l m
  | r => r
abbrev SE := Loc → MH → R PV
abbrev SB := Loc → MH → R Bool
abbrev SA := Loc → MH → R (List PV)
abbrev SS := Loc → MH → RS

/-! what stands for what -/
section
variable (K : PySem.W.Frag) (H : Hp) (φ : List Addr)
mutual
def RV : PV → V → Prop
  | .non, v => v = .non
  | .bl b, v => v = .bl b
  | .int i, v => v = .int i
  | .str s, v => v = .str ⟨s.toArray⟩
  | .tup xs, v => ∃ a vs, v = .ref a ∧ SqT K H a vs ∧ RVs xs vs
  | .ref n, v => ∃ a, φ[n]? = some a ∧ v = .ref a
def RVs : List PV → List V → Prop
  | [], vs => vs = []
  | x :: xs, vs => ∃ v r, vs = v :: r ∧ RV x v ∧ RVs xs r
end
def SqF (a : Addr) (xs : List V) : Prop := (∃ o, H a = some (.frz o (.lst xs))) ∨
  ∃ (o : Obj) (its : Array Value) (n : Nat), K.lookup a = some o ∧ o.cls = .type "list" ∧ o.dict = none ∧ o.data = .seq its n ∧ its.size ≤ sizeLine ∧ Vals xs its.toList
/-- entries of a dict -/
def RKs {κ κ' : Type} (enc : κ → κ') : List (κ × PV) → List (κ' × V) → Prop
  | [], ws => ws = []
  | p :: r, ws => ∃ v t, ws = (enc p.1, v) :: t ∧ RV K H φ p.2 v ∧ RKs enc r t
def encT (k : List Int) : List Key := k.map Sum.inl
def encK (k : Int) : Key := Sum.inl k
def RO : MO → Addr → Prop
  | .lst xs, a => ∃ vs, H a = some (.lst vs) ∧ RVs K H φ xs vs
  | .frz xs, a => ∃ vs, SqF K H a vs ∧ RVs K H φ xs vs
  | .dct kvs, a => ∃ ws, H a = some (.dT ws) ∧ RKs K H φ encT kvs ws
  | .dck kvs, a => ∃ ws, H a = some (.dK ws) ∧ RKs K H φ encK kvs ws
  | .frk kvs, a => ∃ od ws, H a = some (.frz od (.dK ws)) ∧ RKs K H φ encK kvs ws
def MO.mut : MO → Bool
  | .frz _ => false
  | _ => true
structure RH (m : MH) : Prop where
  len : φ.length = m.length
  nd : ∀ (i j : Nat) (a : Addr) (o u : MO), φ[i]? = some a → φ[j]? = some a → m[i]? = some o → m[j]? = some u → o.mut = true → u.mut = true → i = j
  obj : ∀ (n : Nat) (a : Addr) (o : MO), φ[n]? = some a → m[n]? = some o → RO K H φ o a
def RL (l : Loc) (σ : L2.St) : Prop := l.length = σ.length ∧ ∀ (i : Nat) (x : PV), l[i]? = some (some x) → ∃ v, σ[i]? = some (some v) ∧ RV K H φ x v
end
structure Ext (K : PySem.W.Frag) (φ : List Addr) (H : Hp) (φ' : List Addr) (H' : Hp) : Prop where
  pre : ∃ e, φ' = φ ++ e
  tup : ∀ a vs, SqT K H a vs → SqT K H' a vs
  frz : ∀ a od (ws : List (Key × V)), H a = some (.frz od (.dK ws)) → H' a = some (.frz od (.dK ws))
section
variable {K : PySem.W.Frag} {H H' H'' : Hp} {φ φ' φ'' : List Addr}
theorem Ext.refl : Ext K φ H φ H := ⟨⟨[], by simp⟩, fun _ _ h => h, fun _ _ _ h => h⟩
theorem Ext.trans (a : Ext K φ H φ' H') (b : Ext K φ' H' φ'' H'') : Ext K φ H φ'' H'' := by
  obtain ⟨e1, h1⟩ := a.pre
  obtain ⟨e2, h2⟩ := b.pre
  exact ⟨⟨e1 ++ e2, by rw [h2, h1, List.append_assoc]⟩, fun x vs h => b.tup x vs (a.tup x vs h), fun x od ws h => b.frz x od ws (a.frz x od ws h)⟩
theorem Ext.get (e : Ext K φ H φ' H') {n : Nat} {a : Addr} (h : φ[n]? = some a) : φ'[n]? = some a := by
  obtain ⟨w, rfl⟩ := e.pre
  have hl : n < φ.length := (List.getElem?_eq_some_iff.mp h).1
  rw [List.getElem?_append_left hl]; exact h
mutual
theorem RV.ext (e : Ext K φ H φ' H') : ∀ {x : PV} {v : V}, RV K H φ x v → RV K H' φ' x v
  | .non, _, h => h
  | .bl _, _, h => h
  | .int _, _, h => h
  | .str _, _, h => h
  | .tup xs, v, h => by
    obtain ⟨a, vs, h1, h2, h3⟩ := h
    exact ⟨a, vs, h1, e.tup _ _ h2, RVs.ext e h3⟩
  | .ref n, v, h => by
    obtain ⟨a, h1, h2⟩ := h
    exact ⟨a, e.get h1, h2⟩
theorem RVs.ext (e : Ext K φ H φ' H') : ∀ {xs : List PV} {vs : List V}, RVs K H φ xs vs → RVs K H' φ' xs vs
  | [], _, h => h
  | x :: xs, vs, h => by
    obtain ⟨v, r, h1, h2, h3⟩ := h
    exact ⟨v, r, h1, RV.ext e h2, RVs.ext e h3⟩
end
theorem RKs.ext {κ κ' : Type} {enc : κ → κ'} (e : Ext K φ H φ' H') : ∀ {kvs : List (κ × PV)} {ws : List (κ' × V)}, RKs K H φ enc kvs ws → RKs K H' φ' enc kvs ws
  | [], _, h => h
  | p :: r, _, h => by
    obtain ⟨v, t, h1, h2, h3⟩ := h
    exact ⟨v, t, h1, h2.ext e, RKs.ext e h3⟩
theorem RL.ext {l : Loc} {σ : L2.St} (e : Ext K φ H φ' H') (h : RL K H φ l σ) : RL K H' φ' l σ := ⟨h.1, fun i x hx => by
  obtain ⟨v, h1, h2⟩ := h.2 i x hx
  exact ⟨v, h1, h2.ext e⟩⟩
/-- the weaker link: what is known of addresses and tuples stays -/
structure ExtT (K : PySem.W.Frag) (φ : List Addr) (H : Hp) (φ' : List Addr) (H' : Hp) : Prop where
  pre : ∃ e, φ' = φ ++ e
  tup : ∀ a vs, SqT K H a vs → SqT K H' a vs
theorem ExtT.get (e : ExtT K φ H φ' H') {n : Nat} {a : Addr} (h : φ[n]? = some a) : φ'[n]? = some a := by
  obtain ⟨w, rfl⟩ := e.pre
  have hl : n < φ.length := (List.getElem?_eq_some_iff.mp h).1
  rw [List.getElem?_append_left hl]; exact h
theorem Ext.t (e : Ext K φ H φ' H') : ExtT K φ H φ' H' := ⟨e.pre, e.tup⟩
mutual
theorem RV.extT (e : ExtT K φ H φ' H') : ∀ {x : PV} {v : V}, RV K H φ x v → RV K H' φ' x v
  | .non, _, h => h
  | .bl _, _, h => h
  | .int _, _, h => h
  | .str _, _, h => h
  | .tup xs, v, h => by
    obtain ⟨a, vs, h1, h2, h3⟩ := h
    exact ⟨a, vs, h1, e.tup _ _ h2, RVs.extT e h3⟩
  | .ref n, v, h => by
    obtain ⟨a, h1, h2⟩ := h
    exact ⟨a, e.get h1, h2⟩
theorem RVs.extT (e : ExtT K φ H φ' H') : ∀ {xs : List PV} {vs : List V}, RVs K H φ xs vs → RVs K H' φ' xs vs
  | [], _, h => h
  | x :: xs, vs, h => by
    obtain ⟨v, r, h1, h2, h3⟩ := h
    exact ⟨v, r, h1, RV.extT e h2, RVs.extT e h3⟩
end
theorem RKs.extT {κ κ' : Type} {enc : κ → κ'} (e : ExtT K φ H φ' H') : ∀ {kvs : List (κ × PV)} {ws : List (κ' × V)}, RKs K H φ enc kvs ws → RKs K H' φ' enc kvs ws
  | [], _, h => h
  | p :: r, _, h => by
    obtain ⟨v, t, h1, h2, h3⟩ := h
    exact ⟨v, t, h1, h2.extT e, RKs.extT e h3⟩
theorem RL.extT {l : Loc} {σ : L2.St} (e : ExtT K φ H φ' H') (h : RL K H φ l σ) : RL K H' φ' l σ := ⟨h.1, fun i x hx => by
  obtain ⟨v, h1, h2⟩ := h.2 i x hx
  exact ⟨v, h1, h2.extT e⟩⟩
theorem RVs.length : ∀ {xs : List PV} {vs : List V}, RVs K H φ xs vs → vs.length = xs.length
  | [], _, h => by cases h; rfl
  | x :: xs, vs, h => by
    obtain ⟨v, r, rfl, h2, h3⟩ := h
    simp [RVs.length h3]
theorem RVs.get : ∀ {xs : List PV} {vs : List V} {i : Nat} {x : PV}, RVs K H φ xs vs → xs[i]? = some x → ∃ v, vs[i]? = some v ∧ RV K H φ x v
  | [], _, i, x, h, e => by simp at e
  | x :: xs, vs, 0, y, h, e => by
    obtain ⟨v, r, rfl, h2, h3⟩ := h
    simp at e; subst e
    exact ⟨v, by simp, h2⟩
  | x :: xs, vs, i + 1, y, h, e => by
    obtain ⟨v, r, rfl, h2, h3⟩ := h
    simp at e
    obtain ⟨w, h4, h5⟩ := RVs.get h3 e
    exact ⟨w, by simpa using h4, h5⟩
theorem RVs.append : ∀ {xs ys : List PV} {vs ws : List V}, RVs K H φ xs vs → RVs K H φ ys ws → RVs K H φ (xs ++ ys) (vs ++ ws)
  | [], _, _, _, h, g => by cases h; exact g
  | x :: xs, ys, vs, ws, h, g => by
    obtain ⟨v, r, rfl, h2, h3⟩ := h
    exact ⟨v, r ++ ws, rfl, h2, RVs.append h3 g⟩
theorem RVs.drop : ∀ {xs : List PV} {vs : List V} (n : Nat), RVs K H φ xs vs → RVs K H φ (xs.drop n) (vs.drop n)
  | _, _, 0, h => h
  | [], _, n + 1, h => by cases h; exact rfl
  | x :: xs, vs, n + 1, h => by
    obtain ⟨v, r, rfl, h2, h3⟩ := h
    exact RVs.drop n h3
theorem RVs.take : ∀ {xs : List PV} {vs : List V} (n : Nat), RVs K H φ xs vs → RVs K H φ (xs.take n) (vs.take n)
  | _, _, 0, h => by simp; exact rfl
  | [], _, n + 1, h => by cases h; exact rfl
  | x :: xs, vs, n + 1, h => by
    obtain ⟨v, r, rfl, h2, h3⟩ := h
    exact ⟨v, r.take n, rfl, h2, RVs.take n h3⟩
theorem RVs.set {y : PV} {w : V} (q : RV K H φ y w) : ∀ {xs : List PV} {vs : List V} (i : Nat), RVs K H φ xs vs → RVs K H φ (xs.set i y) (vs.set i w)
  | [], _, _, h => by cases h; exact rfl
  | x :: xs, vs, 0, h => by
    obtain ⟨v, r, rfl, h2, h3⟩ := h
    exact ⟨w, r, rfl, q, h3⟩
  | x :: xs, vs, i + 1, h => by
    obtain ⟨v, r, rfl, h2, h3⟩ := h
    exact ⟨v, r.set i w, rfl, h2, RVs.set q i h3⟩
/-- a value of the heap's kinds -/
theorem sqt_upd_new {K : PySem.W.Frag} {H : Hp} {p a : Addr} {o : HO} {vs : List V} (n : H p = none) (h : SqT K H a vs) : SqT K (upd H p o) a vs := by
  rcases h with (h | ⟨o, h⟩) | h
  · exact .inl (.inl (by rw [upd_ne (ne_of_none h n)]; exact h))
  · exact .inl (.inr ⟨o, by rw [upd_ne (ne_of_none h n)]; exact h⟩)
  · exact .inr h
theorem sql_upd_new {K : PySem.W.Frag} {H : Hp} {p a : Addr} {o : HO} {vs : List V} (n : H p = none) (h : SqL K H a vs) : SqL K (upd H p o) a vs := by
  rcases h with (h | ⟨o, h⟩) | h
  · exact .inl (.inl (by rw [upd_ne (ne_of_none h n)]; exact h))
  · exact .inl (.inr ⟨o, by rw [upd_ne (ne_of_none h n)]; exact h⟩)
  · exact .inr h
theorem sqt_upd_lst {K : PySem.W.Frag} {H : Hp} {p a : Addr} {xs ys vs : List V} (n : H p = some (.lst xs)) (h : SqT K H a vs) : SqT K (upd H p (.lst ys)) a vs := by
  rcases h with (h | ⟨o, h⟩) | h
  · exact .inl (.inl (by rw [upd_ne (ne_of h n (by intro z; cases z))]; exact h))
  · exact .inl (.inr ⟨o, by rw [upd_ne (ne_of h n (by intro z; cases z))]; exact h⟩)
  · exact .inr h
theorem sql_upd_ne {K : PySem.W.Frag} {H : Hp} {p a : Addr} {o : HO} {vs : List V} (n : a ≠ p) (h : SqL K H a vs) : SqL K (upd H p o) a vs := by
  rcases h with (h | ⟨o, h⟩) | h
  · exact .inl (.inl (by rw [upd_ne n]; exact h))
  · exact .inl (.inr ⟨o, by rw [upd_ne n]; exact h⟩)
  · exact .inr h
theorem SqF.l {K : PySem.W.Frag} {H : Hp} {a : Addr} {vs : List V} (h : SqF K H a vs) : SqL K H a vs := by
  rcases h with h | h
  · exact .inl (.inr h)
  · exact .inr h
theorem sqf_upd_new {K : PySem.W.Frag} {H : Hp} {p a : Addr} {o : HO} {vs : List V} (n : H p = none) (h : SqF K H a vs) : SqF K (upd H p o) a vs := by
  rcases h with ⟨o, h⟩ | h
  · exact .inl ⟨o, by rw [upd_ne (ne_of_none h n)]; exact h⟩
  · exact .inr h
theorem sqf_upd_mut {K : PySem.W.Frag} {H : Hp} {p a : Addr} {o u : HO} {vs : List V} (n : H p = some u) (hu : ∀ o x, u ≠ .frz o x) (h : SqF K H a vs) : SqF K (upd H p o) a vs := by
  rcases h with ⟨o, h⟩ | h
  · exact .inl ⟨o, by rw [upd_ne (ne_of h n (by intro z; exact hu _ _ z.symm))]; exact h⟩
  · exact .inr h
theorem RO.tracked {o : MO} {a : Addr} (h : RO K H φ o a) (hm : o.mut = true) : ∃ u, H a = some u := by
  cases o with
  | lst xs => obtain ⟨vs, h1, _⟩ := h; exact ⟨_, h1⟩
  | frz xs => cases hm
  | dct xs => obtain ⟨vs, h1, _⟩ := h; exact ⟨_, h1⟩
  | dck xs => obtain ⟨vs, h1, _⟩ := h; exact ⟨_, h1⟩
  | frk xs => obtain ⟨od, vs, h1, _⟩ := h; exact ⟨_, h1⟩
/-- the objects stay where a new thing is laid -/
theorem RO.new {o : MO} {a p : Addr} {u : HO} (h : RO K H φ o a) (n : H p = none) (e : Ext K φ H φ' (upd H p u)) : RO K (upd H p u) φ' o a := by
  cases o with
  | lst ys =>
    obtain ⟨ws, q1, q2⟩ := h
    exact ⟨ws, by rw [upd_ne (ne_of_none q1 n)]; exact q1, q2.ext e⟩
  | frz ys =>
    obtain ⟨ws, q1, q2⟩ := h
    exact ⟨ws, sqf_upd_new n q1, q2.ext e⟩
  | dct ys =>
    obtain ⟨ws, q1, q2⟩ := h
    exact ⟨ws, by rw [upd_ne (ne_of_none q1 n)]; exact q1, q2.ext e⟩
  | dck ys =>
    obtain ⟨ws, q1, q2⟩ := h
    exact ⟨ws, by rw [upd_ne (ne_of_none q1 n)]; exact q1, q2.ext e⟩
  | frk ys =>
    obtain ⟨od, ws, q1, q2⟩ := h
    exact ⟨od, ws, by rw [upd_ne (ne_of_none q1 n)]; exact q1, q2.ext e⟩
/-- a new object -/
theorem RH.newO {m : MH} {p : Addr} {u : HO} {x : MO} (h : RH K H φ m) (n : H p = none) (e : Ext K φ H (φ ++ [p]) (upd H p u)) (q : RO K (upd H p u) (φ ++ [p]) x p) :
    RH K (upd H p u) (φ ++ [p]) (m ++ [x]) := by
  have cut : ∀ (i : Nat) (a : Addr) (o : MO), (φ ++ [p])[i]? = some a → (m ++ [x])[i]? = some o → (i < φ.length ∧ φ[i]? = some a ∧ m[i]? = some o) ∨ (i = φ.length ∧ a = p ∧ o = x) := by
    intro i a o h1 h2
    by_cases hi : i < φ.length
    · rw [List.getElem?_append_left hi] at h1
      rw [List.getElem?_append_left (by rw [← h.len]; exact hi)] at h2
      exact .inl ⟨hi, h1, h2⟩
    · have hi' : i = φ.length := by
        have := (List.getElem?_eq_some_iff.mp h1).1
        simp at this; omega
      subst hi'
      simp at h1
      rw [h.len] at h2
      simp at h2
      exact .inr ⟨rfl, h1.symm, h2.symm⟩
  refine ⟨by simp [h.len], ?_, ?_⟩
  · intro i j a o w h1 h2 h3 h4 m1 m2
    rcases cut i a o h1 h3 with ⟨_, c1, c2⟩ | ⟨c1, c2, c3⟩ <;> rcases cut j a w h2 h4 with ⟨_, d1, d2⟩ | ⟨d1, d2, d3⟩
    · exact h.nd i j a o w c1 d1 c2 d2 m1 m2
    · obtain ⟨z, hz⟩ := (h.obj i a o c1 c2).tracked m1
      rw [d2, n] at hz; cases hz
    · obtain ⟨z, hz⟩ := (h.obj j a w d1 d2).tracked m2
      rw [c2, n] at hz; cases hz
    · omega
  · intro i a o h1 h2
    rcases cut i a o h1 h2 with ⟨_, c1, c2⟩ | ⟨c1, c2, c3⟩
    · exact (h.obj i a o c1 c2).new n e
    · rw [c2, c3]; exact q
/-- a new list -/
theorem RH.newL {m : MH} {p : Addr} {xs : List PV} {vs : List V} (h : RH K H φ m) (n : H p = none) (q : RVs K H φ xs vs) :
    Ext K φ H (φ ++ [p]) (upd H p (.lst vs)) ∧ RH K (upd H p (.lst vs)) (φ ++ [p]) (m ++ [.lst xs]) ∧ RV K (upd H p (.lst vs)) (φ ++ [p]) (.ref m.length) (.ref p) := by
  have e : Ext K φ H (φ ++ [p]) (upd H p (.lst vs)) := ⟨⟨[p], rfl⟩, fun a ws w => sqt_upd_new n w, fun _ _ _ w => by rw [upd_ne (ne_of_none w n)]; exact w⟩
  exact ⟨e, h.newO n e ⟨vs, upd_same, q.ext e⟩, ⟨p, by simp [← h.len], rfl⟩⟩
/-- a new tuple -/
theorem RH.newT {m : MH} {p : Addr} {xs : List PV} {vs : List V} (h : RH K H φ m) (n : H p = none) (q : RVs K H φ xs vs) :
    Ext K φ H φ (upd H p (.tup vs)) ∧ RH K (upd H p (.tup vs)) φ m ∧ RV K (upd H p (.tup vs)) φ (.tup xs) (.ref p) := by
  have e : Ext K φ H φ (upd H p (.tup vs)) := ⟨⟨[], by simp⟩, fun a ws w => sqt_upd_new n w, fun _ _ _ w => by rw [upd_ne (ne_of_none w n)]; exact w⟩
  exact ⟨e, ⟨h.len, h.nd, fun i a o h1 h2 => (h.obj i a o h1 h2).new n e⟩, ⟨p, vs, rfl, .inl (.inl upd_same), q.ext e⟩⟩
theorem sqt_upd_mut {K : PySem.W.Frag} {H : Hp} {p a : Addr} {u o : HO} {vs : List V} (n : H p = some u) (nt : ∀ xs, u ≠ .tup xs) (nf : ∀ o x, u ≠ .frz o x) (h : SqT K H a vs) : SqT K (upd H p o) a vs := by
  rcases h with (h | ⟨o, h⟩) | h
  · exact .inl (.inl (by rw [upd_ne (ne_of h n (by intro z; exact nt _ z.symm))]; exact h))
  · exact .inl (.inr ⟨o, by rw [upd_ne (ne_of h n (by intro z; exact nf _ _ z.symm))]; exact h⟩)
  · exact .inr h
/-- an object is changed -/
theorem RH.setG {m : MH} {k : Nat} {a : Addr} {o1 o2 : MO} {u2 : HO} (h : RH K H φ m) (hk : φ[k]? = some a) (hm : m[k]? = some o1) (mu : o1.mut = true) (st : ∀ b vs, SqT K H b vs → SqT K (upd H a u2) b vs) (sf : ∀ b vs, SqF K H b vs → SqF K (upd H a u2) b vs) (mu2 : o2.mut = true)
    (q : ExtT K φ H φ (upd H a u2) → RO K (upd H a u2) φ o2 a) : ExtT K φ H φ (upd H a u2) ∧ RH K (upd H a u2) φ (m.set k o2) := by
  have e : ExtT K φ H φ (upd H a u2) := ⟨⟨[], by simp⟩, fun b us w => st b us w⟩
  have hkm : k < m.length := (List.getElem?_eq_some_iff.mp hm).1
  refine ⟨e, ⟨by simp [h.len], ?_, ?_⟩⟩
  · intro i j b o w h1 h2 h3 h4 m1 m2
    have back : ∀ (i : Nat) (o : MO), (m.set k o2)[i]? = some o → o.mut = true → ∃ o', m[i]? = some o' ∧ o'.mut = true := by
      intro i o h3 m1
      by_cases hi : i = k
      · subst hi; exact ⟨_, hm, mu⟩
      · rw [List.getElem?_set_ne (Ne.symm hi)] at h3; exact ⟨o, h3, m1⟩
    obtain ⟨o', e1, e2⟩ := back i o h3 m1
    obtain ⟨w', e3, e4⟩ := back j w h4 m2
    exact h.nd i j b o' w' h1 h2 e1 e3 e2 e4
  · intro i b o h1 h2
    by_cases hi : i = k
    · subst hi
      rw [List.getElem?_set_self hkm] at h2
      cases h2
      rw [hk] at h1; cases h1
      exact q e
    · rw [List.getElem?_set_ne (Ne.symm hi)] at h2
      have r := h.obj i b o h1 h2
      have nb : o.mut = true → b ≠ a := fun om z => hi (h.nd i k a _ _ (z ▸ h1) hk h2 hm om mu)
      cases o with
      | lst zs =>
        obtain ⟨us, q1, q2⟩ := r
        exact ⟨us, by rw [upd_ne (nb rfl)]; exact q1, q2.extT e⟩
      | frz zs =>
        obtain ⟨us, q1, q2⟩ := r
        exact ⟨us, sf b us q1, q2.extT e⟩
      | dct zs =>
        obtain ⟨us, q1, q2⟩ := r
        exact ⟨us, by rw [upd_ne (nb rfl)]; exact q1, q2.extT e⟩
      | dck zs =>
        obtain ⟨us, q1, q2⟩ := r
        exact ⟨us, by rw [upd_ne (nb rfl)]; exact q1, q2.extT e⟩
      | frk zs =>
        obtain ⟨od, us, q1, q2⟩ := r
        exact ⟨od, us, by rw [upd_ne (nb rfl)]; exact q1, q2.extT e⟩
theorem RH.setM {m : MH} {k : Nat} {a : Addr} {o1 o2 : MO} {u1 u2 : HO} (h : RH K H φ m) (hk : φ[k]? = some a) (hm : m[k]? = some o1) (mu : o1.mut = true) (ha : H a = some u1) (nt : ∀ xs, u1 ≠ .tup xs) (nf : ∀ o x, u1 ≠ .frz o x) (mu2 : o2.mut = true)
    (q : Ext K φ H φ (upd H a u2) → RO K (upd H a u2) φ o2 a) : Ext K φ H φ (upd H a u2) ∧ RH K (upd H a u2) φ (m.set k o2) := by
  have e : Ext K φ H φ (upd H a u2) := ⟨⟨[], by simp⟩, fun _ _ w => sqt_upd_mut ha nt nf w, fun b od ws w => by rw [upd_ne (fun z => by rw [z, ha] at w; exact nf _ _ (Option.some.inj w))]; exact w⟩
  exact ⟨e, (h.setG hk hm mu (fun _ _ w => sqt_upd_mut ha nt nf w) (fun _ _ w => sqf_upd_mut ha nf w) mu2 fun _ => q e).2⟩
theorem sqt_upd_frk {K : PySem.W.Frag} {H : Hp} {p a : Addr} {od : Obj} {ws : List (Key × V)} {o : HO} {vs : List V} (n : H p = some (.frz od (.dK ws))) (h : SqT K H a vs) : SqT K (upd H p o) a vs := by
  rcases h with (h | ⟨o, h⟩) | h
  · exact .inl (.inl (by rw [upd_ne (ne_of h n (by intro z; cases z))]; exact h))
  · exact .inl (.inr ⟨o, by rw [upd_ne (ne_of h n (by intro z; cases z))]; exact h⟩)
  · exact .inr h
theorem sqf_upd_frk {K : PySem.W.Frag} {H : Hp} {p a : Addr} {od : Obj} {ws : List (Key × V)} {o : HO} {vs : List V} (n : H p = some (.frz od (.dK ws))) (h : SqF K H a vs) : SqF K (upd H p o) a vs := by
  rcases h with ⟨o, h⟩ | h
  · exact .inl ⟨o, by rw [upd_ne (ne_of h n (by intro z; cases z))]; exact h⟩
  · exact .inr h
/-- a list is changed -/
theorem RH.setL {m : MH} {k : Nat} {a : Addr} {xs ys : List PV} {ws : List V} (h : RH K H φ m) (hk : φ[k]? = some a) (hm : m[k]? = some (.lst xs)) (q : RVs K H φ ys ws) :
    Ext K φ H φ (upd H a (.lst ws)) ∧ RH K (upd H a (.lst ws)) φ (m.set k (.lst ys)) := by
  obtain ⟨vs, ha, _⟩ := h.obj k a _ hk hm
  exact h.setM hk hm rfl ha (fun _ z => by cases z) (fun _ _ z => by cases z) rfl fun e => ⟨ws, upd_same, q.ext e⟩
end
end SM

set_option Elab.async false
set_option linter.all false
set_option maxRecDepth 100000
set_option maxHeartbeats 1000000
namespace SM
open PySem PySem.Spec PyProof.Rows L2

/-- what is wanted of an exception: its class, its fields, the addresses, the heap of the reckoning, the slots, the heap -/
abbrev XM := String → List PV → List Addr → Loc → MH → L2.St → Hp → Prop
def W0 : XM := fun _ _ _ _ _ _ _ => False
abbrev Rel (α β : Type) := Hp → List Addr → α → β → Prop
def rV (K : PySem.W.Frag) : Rel PV V := fun H φ x v => RV K H φ x v
def rA (K : PySem.W.Frag) : Rel (List PV) (List V) := fun H φ x v => RVs K H φ x v
def rB : Rel Bool Bool := fun _ _ b c => c = b
class Stays {α β : Type} (K : PySem.W.Frag) (rel : Rel α β) : Prop where
  st : ∀ {φ φ' : List Addr} {H H' : Hp} {x : α} {v : β}, Ext K φ H φ' H' → rel H φ x v → rel H' φ' x v
instance {K} : Stays K (rV K) := ⟨fun e h => RV.ext e h⟩
instance {K} : Stays K (rA K) := ⟨fun e h => RVs.ext e h⟩
instance {K} : Stays K rB := ⟨fun _ h => h⟩

def Post {α β : Type} (K : PySem.W.Frag) (rel : Rel α β) (W : XM) (φ : List Addr) (l : Loc) (σ : L2.St) (H : Hp) (r : R α) (Q : β → Hp → Prop) : Prop := match r with
  | .ok x m => ∀ φ' H' v, Ext K φ H φ' H' → RH K H' φ' m → rel H' φ' x v → Q v H'
  | .ex c fs m => ∀ φ' H', Ext K φ H φ' H' → RH K H' φ' m → W c fs φ' l m σ H'
  | .bad => False
def Rdg {α β : Type} (K : PySem.W.Frag) (rel : Rel α β) (W : XM) (s : Loc → MH → R α) : L2.St → Hp → (β → Hp → Prop) → Prop := fun σ H Q =>
  ∃ φ l m, RH K H φ m ∧ RL K H φ l σ ∧ Post K rel W φ l σ H (s l m) Q
section
variable {K : PySem.W.Frag} {α β α' β' : Type} {rel : Rel α β} {rel' : Rel α' β'} {W : XM} {φ φ' : List Addr} {σ : L2.St} {H H' : Hp} {r : R α} {Q Q' : β → Hp → Prop} {s : Loc → MH → R α} {l : Loc} {m : MH}
theorem Post.ext (e : Ext K φ H φ' H') (h : Post K rel W φ l σ H r Q) : Post K rel W φ' l σ H' r Q := by
  cases r with
  | ok x m => exact fun φ2 H2 v e2 => h φ2 H2 v (e.trans e2)
  | ex c fs m => exact fun φ2 H2 e2 => h φ2 H2 (e.trans e2)
  | bad => exact h
theorem Post.mono (h : Post K rel W φ l σ H r Q) (q : ∀ v H, Q v H → Q' v H) : Post K rel W φ l σ H r Q' := by
  cases r with
  | ok x m => exact fun φ2 H2 v e2 a b => q _ _ (h φ2 H2 v e2 a b)
  | ex c fs m => exact h
  | bad => exact h
theorem Rdg.mono (h : Rdg K rel W s σ H Q) (q : ∀ v H, Q v H → Q' v H) : Rdg K rel W s σ H Q' := by
  obtain ⟨φ, l, m, h1, h2, h3⟩ := h
  exact ⟨φ, l, m, h1, h2, h3.mono q⟩
theorem Rdg.at (h1 : RH K H φ m) (h2 : RL K H φ l σ) (h3 : Post K rel W φ l σ H (s l m) Q) : Rdg K rel W s σ H Q := ⟨φ, l, m, h1, h2, h3⟩
/-- behind the first part -/
theorem Post.bind {k : α → MH → R α'} {Q : β' → Hp → Prop} (hl : RL K H φ l σ) (h : Post K rel' W φ l σ H (r.bind k) Q) :
    Post K rel W φ l σ H r (fun v H1 => ∃ φ1 x m1, Ext K φ H φ1 H1 ∧ RH K H1 φ1 m1 ∧ RL K H1 φ1 l σ ∧ rel H1 φ1 x v ∧ Post K rel' W φ1 l σ H1 (k x m1) Q) := by
  cases r with
  | ok x m => exact fun φ2 H2 v e a b => ⟨φ2, x, m, e, a, hl.ext e, b, Post.ext e h⟩
  | ex c fs m => exact h
  | bad => exact h
end
structure QE (X : Cx) (W : XM) (e : Expr) (s : SE) : Prop where
  pe : PE X e (Rdg X.K (rV X.K) W s)
structure QA (X : Cx) (W : XM) (es : List Expr) (s : SA) : Prop where
  pa : PA X es (Rdg X.K (rA X.K) W s)
structure QT (X : Cx) (W : XM) (e : Expr) (s : SB) : Prop where
  pt : PT X e (Rdg X.K rB W s)
structure QW (X : Cx) (W : XM) (e : Expr) (s : SB) : Prop where
  pw : PW X e (Rdg X.K rB W s)
theorem pe_imp {X : Cx} {e : Expr} {t t' : TE} (h : PE X e t) (i : ∀ σ H Q, t' σ H Q → t σ H Q) : PE X e t' := ⟨fun pins s σ H Q I q => h.run pins s σ H Q I (i σ H Q q)⟩
theorem pt_imp {X : Cx} {e : Expr} {t t' : TT} (h : PT X e t) (i : ∀ σ H Q, t' σ H Q → t σ H Q) : PT X e t' := ⟨fun pins s σ H Q I q => h.run pins s σ H Q I (i σ H Q q)⟩
theorem pw_imp {X : Cx} {e : Expr} {t t' : TT} (h : PW X e t) (i : ∀ σ H Q, t' σ H Q → t σ H Q) : PW X e t' := ⟨fun wh pins s σ H Q I q => h.run wh pins s σ H Q I (i σ H Q q)⟩
theorem pa_imp {X : Cx} {e : List Expr} {t t' : TA} (h : PA X e t) (i : ∀ σ H Q, t' σ H Q → t σ H Q) : PA X e t' := ⟨fun pos pins s σ H Q I q => h.run pos pins s σ H Q I (i σ H Q q)⟩

/-! ## names, constants -/
section
variable {X : Cx} {W : XM}
def sVar (i : Nat) : SE := fun l m => match l[i]? with
  | some (some v) => .ok v m
  | _ => .bad
def sC (v : PV) : SE := fun _ m => .ok v m
theorem q_var (i : Nat) {x : Str} {pos : Pos} (hN : X.N[i]? = some x := by rfl) (hv : Vis X.env.scope x := by first | exact Or.inl rfl | exact Or.inr (Or.inl rfl) | exact Or.inr (Or.inr rfl)) (hd : (x == ("__debug__" : Str)) = false := by decide)
    (hcd : (x == ("__classdict__" : Str)) = false := by decide) : QE X W (.Name x pos) (sVar i) := ⟨pe_imp (pe_var hN hv hd hcd) fun σ H Q h => by
  obtain ⟨φ, l, m, h1, h2, h3⟩ := h
  unfold sVar at h3
  cases hl : l[i]? with
  | none => rw [hl] at h3; exact h3.elim
  | some o =>
    cases o with
    | none => rw [hl] at h3; exact h3.elim
    | some x =>
      rw [hl] at h3
      obtain ⟨v, e1, e2⟩ := h2.2 i x hl
      exact ⟨v, e1, h3 φ H v Ext.refl h1 e2⟩⟩
theorem q_int {i j pos} : QE X W (.Constant (.int i) j pos) (sC (.int i)) := ⟨pe_imp pe_int fun σ H Q h => by
  obtain ⟨φ, l, m, h1, h2, h3⟩ := h
  exact h3 φ H _ Ext.refl h1 rfl⟩
theorem q_bl {i j pos} : QE X W (.Constant (.bool i) j pos) (sC (.bl i)) := ⟨pe_imp pe_bl fun σ H Q h => by
  obtain ⟨φ, l, m, h1, h2, h3⟩ := h
  exact h3 φ H _ Ext.refl h1 rfl⟩
theorem q_non {j pos} : QE X W (.Constant .none j pos) (sC .non) := ⟨pe_imp pe_non fun σ H Q h => by
  obtain ⟨φ, l, m, h1, h2, h3⟩ := h
  exact h3 φ H _ Ext.refl h1 rfl⟩
theorem q_str {x : Str} {j pos} : QE X W (.Constant (.str x) j pos) (sC (.str x.cps.toList)) := ⟨pe_imp pe_str fun σ H Q h => by
  obtain ⟨φ, l, m, h1, h2, h3⟩ := h
  exact h3 φ H _ Ext.refl h1 rfl⟩
end

/-! ## heaps of the reckoning -/
def lst? (m : MH) (n : Nat) : Option (List PV) := match m[n]? with
  | some (.lst xs) => some xs
  | _ => none
def seq? (m : MH) (n : Nat) : Option (List PV) := match m[n]? with
  | some (.lst xs) => some xs
  | some (.frz xs) => some xs
  | _ => none
theorem lst_some {m : MH} {n : Nat} {xs : List PV} (h : lst? m n = some xs) : m[n]? = some (.lst xs) := by
  unfold lst? at h
  split at h
  · rename_i e; cases h; exact e
  · cases h
theorem seq_some {m : MH} {n : Nat} {xs : List PV} (h : seq? m n = some xs) : m[n]? = some (.lst xs) ∨ m[n]? = some (.frz xs) := by
  unfold seq? at h
  split at h
  · rename_i e; cases h; exact .inl e
  · rename_i e; cases h; exact .inr e
  · cases h
section
variable {K : PySem.W.Frag} {H : Hp} {φ : List Addr} {m : MH} {n : Nat} {xs : List PV} {v : V}
theorem RH.lst (h : RH K H φ m) (r : RV K H φ (.ref n) v) (e : lst? m n = some xs) : ∃ a vs, φ[n]? = some a ∧ v = .ref a ∧ H a = some (.lst vs) ∧ RVs K H φ xs vs := by
  obtain ⟨a, h1, h2⟩ := r
  obtain ⟨vs, q1, q2⟩ := h.obj n a _ h1 (lst_some e)
  exact ⟨a, vs, h1, h2, q1, q2⟩
theorem RH.seq (h : RH K H φ m) (r : RV K H φ (.ref n) v) (e : seq? m n = some xs) : ∃ a vs, v = .ref a ∧ SqL K H a vs ∧ RVs K H φ xs vs := by
  obtain ⟨a, h1, h2⟩ := r
  rcases seq_some e with e | e
  · obtain ⟨vs, q1, q2⟩ := h.obj n a _ h1 e
    exact ⟨a, vs, h2, .inl (.inl q1), q2⟩
  · obtain ⟨vs, q1, q2⟩ := h.obj n a _ h1 e
    exact ⟨a, vs, h2, q1.l, q2⟩
end

/-! ## operators -/
abbrev OR := Option (PV × MH)
def lift {α : Type} (o : Option (α × MH)) : R α := match o with
  | some (x, m) => .ok x m
  | none => .bad
def PostO (K : PySem.W.Frag) (φ : List Addr) (H : Hp) (o : OR) (Q : VK) : Prop := ∃ x m, o = some (x, m) ∧ ∀ φ' H' v, Ext K φ H φ' H' → RH K H' φ' m → RV K H' φ' x v → Q v H'
theorem PostO.of {K : PySem.W.Frag} {W : XM} {φ : List Addr} {l : Loc} {σ : L2.St} {H : Hp} {o : OR} {Q : VK} (h : Post K (rV K) W φ l σ H (lift o) Q) : PostO K φ H o Q := by
  cases o with
  | none => exact h.elim
  | some p => obtain ⟨x, m⟩ := p; exact ⟨x, m, rfl, h⟩
/-- an operation on two values -/
def OpQ (X : Cx) (f : Value → Value → Sem Value) (op : PV → PV → MH → OR) : Prop :=
  OpR X f (fun v w H Q => ∃ φ m x y, RH X.K H φ m ∧ RV X.K H φ x v ∧ RV X.K H φ y w ∧ PostO X.K φ H (op x y m) Q)
def UnQ (X : Cx) (f : Value → Sem Value) (op : PV → MH → OR) : Prop :=
  UnR X f (fun v H Q => ∃ φ m x, RH X.K H φ m ∧ RV X.K H φ x v ∧ PostO X.K φ H (op x m) Q)
def sOp (op : PV → PV → MH → OR) (a b : SE) : SE := fun l m => (a l m).bind fun x m1 => (b l m1).bind fun y m2 => lift (op x y m2)
def sUn (op : PV → MH → OR) (a : SE) : SE := fun l m => (a l m).bind fun x m1 => lift (op x m1)
/-- two readings in a row -/
theorem two {K : PySem.W.Frag} {W : XM} {a b : SE} {σ : L2.St} {H : Hp} {α β : Type} {rel : Rel α β} {k : PV → PV → MH → R α} {Q : β → Hp → Prop} (h : Rdg K rel W (fun l m => (a l m).bind fun x m1 => (b l m1).bind fun y m2 => k x y m2) σ H Q) :
    Rdg K (rV K) W a σ H fun v H1 => Rdg K (rV K) W b σ H1 fun w H2 => ∃ φ m x y l, RH K H2 φ m ∧ RV K H2 φ x v ∧ RV K H2 φ y w ∧ Post K rel W φ l σ H2 (k x y m) Q := by
  obtain ⟨φ, l, m, h1, h2, h3⟩ := h
  refine ⟨φ, l, m, h1, h2, (Post.bind (rel := rV K) h2 h3).mono ?_⟩
  rintro v H1 ⟨φ1, x, m1, e1, a1, b1, c1, d1⟩
  refine ⟨φ1, l, m1, a1, b1, (Post.bind (rel := rV K) b1 d1).mono ?_⟩
  rintro w H2 ⟨φ2, y, m2, e2, a2, b2, c2, d2⟩
  exact ⟨φ2, m2, x, y, l, a2, RV.ext e2 c1, c2, d2⟩
theorem one {K : PySem.W.Frag} {W : XM} {a : SE} {σ : L2.St} {H : Hp} {α β : Type} {rel : Rel α β} {k : PV → MH → R α} {Q : β → Hp → Prop} (h : Rdg K rel W (fun l m => (a l m).bind fun x m1 => k x m1) σ H Q) :
    Rdg K (rV K) W a σ H fun v H1 => ∃ φ m x l, RH K H1 φ m ∧ RV K H1 φ x v ∧ Post K rel W φ l σ H1 (k x m) Q := by
  obtain ⟨φ, l, m, h1, h2, h3⟩ := h
  refine ⟨φ, l, m, h1, h2, (Post.bind (rel := rV K) h2 h3).mono ?_⟩
  rintro v H1 ⟨φ1, x, m1, e1, a1, b1, c1, d1⟩
  exact ⟨φ1, m1, x, l, a1, c1, d1⟩
section
variable {X : Cx} {W : XM} {a b : Expr} {sa sb : SE} {pos : Pos}
theorem q_bin {op : Operator} {f : PV → PV → MH → OR} (ho : OpQ X (binaryOp op) f) (ha : QE X W a sa) (hb : QE X W b sb) : QE X W (.BinOp a op b pos) (sOp f sa sb) :=
  ⟨pe_imp (pe_op ho ha.pe hb.pe) fun σ H Q h => (two h).mono fun v H1 h1 => Rdg.mono h1 fun w H2 ⟨φ, m, x, y, _, c1, c2, c3, c4⟩ => ⟨φ, m, x, y, c1, c2, c3, .of c4⟩⟩
theorem q_un {op : UnaryOp} {f : PV → MH → OR} (ho : UnQ X (unaryOp op) f) (ha : QE X W a sa) : QE X W (.UnaryOp op a pos) (sUn f sa) :=
  ⟨pe_imp (pe_un ho ha.pe) fun σ H Q h => (one h).mono fun v H1 ⟨φ, m, x, _, c1, c2, c4⟩ => ⟨φ, m, x, c1, c2, .of c4⟩⟩
theorem q_cmp {op : CmpOp} {f : PV → PV → MH → OR} (ho : OpQ X (compareOp op) f) (ha : QE X W a sa) (hb : QE X W b sb) (hm : behindInMarks op b = false) : QE X W (.Compare a [op] [b] pos) (sOp f sa sb) :=
  ⟨pe_imp (pe_cmpR ho ha.pe hb.pe hm) fun σ H Q h => (two h).mono fun v H1 h1 => Rdg.mono h1 fun w H2 ⟨φ, m, x, y, _, c1, c2, c3, c4⟩ => ⟨φ, m, x, y, c1, c2, c3, .of c4⟩⟩
end

/-! ### ints -/
set_option exponentiation.threshold 5000
@[irreducible] def big : Nat := 2 ^ 4096
theorem big_eq : big = 2 ^ 4096 := by unfold big; rfl
theorem log2_big {n : Nat} (h : n < big) : n.log2 < 4096 := PySem.Flt.log2_lt_of (by decide) (by rw [← big_eq]; exact h)
section
variable {K : PySem.W.Frag} {H : Hp} {φ : List Addr} {x : PV} {v : V}
theorem RV.int {i : Int} (h : RV K H φ (.int i) v) : v = .int i := h
end
def addv : PV → PV → MH → OR
  | .int a, .int b, m => some (.int (a + b), m)
  | .str a, .str b, m => if a.length + b.length ≤ 16777216 then some (.str (a ++ b), m) else none
  | .tup a, .tup b, m => if a.length + b.length ≤ 16777216 then some (.tup (a ++ b), m) else none
  | .ref i, .ref j, m => match lst? m i, lst? m j with
    | some xs, some ys => if xs.length + ys.length ≤ 16777216 then some (.ref m.length, m ++ [.lst (xs ++ ys)]) else none
    | _, _ => none
  | _, _, _ => none
def subv : PV → PV → MH → OR
  | .int a, .int b, m => some (.int (a - b), m)
  | _, _, _ => none
def mulv : PV → PV → MH → OR
  | .int a, .int b, m => if (a.natAbs < 18446744073709551616 ∨ b.natAbs < 18446744073709551616) ∨ (a.natAbs < big ∧ b.natAbs < big) then some (.int (a * b), m) else none
  | _, _, _ => none
def fdivv : PV → PV → MH → OR
  | .int a, .int b, m => if b ≠ 0 ∧ b.natAbs < big then some (.int (a.fdiv b), m) else none
  | _, _, _ => none
def modv : PV → PV → MH → OR
  | .int a, .int b, m => if b ≠ 0 then some (.int (a.fmod b), m) else none
  | _, _, _ => none
def powv : PV → PV → MH → OR
  | .int a, .int b, m => if 0 ≤ b ∧ b ≤ 1000 ∧ a.natAbs < 18446744073709551616 then some (.int (a ^ b.toNat), m) else none
  | _, _, _ => none
def negv : PV → MH → OR
  | .int a, m => some (.int (-a), m)
  | _, _ => none
theorem str_app (a b : List Nat) : (⟨a.toArray⟩ : Str) ++ (⟨b.toArray⟩ : Str) = ⟨(a ++ b).toArray⟩ := by
  show Str.mk _ = _
  simp
theorem str_len (a : List Nat) : (⟨a.toArray⟩ : Str).length = a.length := by simp [Str.length]
theorem sl_eq : sizeLine = 16777216 := sizeLine_eq
section
variable {X : Cx}
theorem OpQ.of_eq {f : Value → Value → Sem Value} {op : PV → PV → MH → OR} (h : ∀ (v w : V) (H : Hp) (Q : VK) φ m x y, RH X.K H φ m → RV X.K H φ x v → RV X.K H φ y w → PostO X.K φ H (op x y m) Q → ∃ r : R2, OpR X f r ∧ r v w H Q) : OpQ X f op := by
  intro pins s σ H v w vv ww Q I rv rw' ⟨φ, m, x, y, h1, h2, h3, h4⟩
  obtain ⟨r, hr, q⟩ := h v w H Q φ m x y h1 h2 h3 h4
  exact hr pins s σ H v w vv ww Q I rv rw' q
theorem PostO.same {K : PySem.W.Frag} {φ : List Addr} {H : Hp} {m : MH} {x : PV} {v : V} {Q : VK} (h : PostO K φ H (some (x, m)) Q) (h1 : RH K H φ m) (r : RV K H φ x v) : Q v H := by
  obtain ⟨y, m', e, q⟩ := h
  cases e
  exact q φ H v Ext.refl h1 r
theorem PostO.not {K : PySem.W.Frag} {φ : List Addr} {H : Hp} {Q : VK} (h : PostO K φ H none Q) : False := by
  obtain ⟨y, m', e, q⟩ := h
  cases e
theorem PostO.newT {K : PySem.W.Frag} {φ : List Addr} {H : Hp} {m : MH} {xs : List PV} {vs : List V} {Q : VK} (h : PostO K φ H (some (.tup xs, m)) Q) (h1 : RH K H φ m) (r : RVs K H φ xs vs) : ∀ p, H p = none → Q (.ref p) (upd H p (.tup vs)) := by
  obtain ⟨y, m', e, q⟩ := h
  cases e
  intro p np
  obtain ⟨e, a, b⟩ := h1.newT np r
  exact q _ _ _ e a b
theorem PostO.newL {K : PySem.W.Frag} {φ : List Addr} {H : Hp} {m : MH} {xs : List PV} {vs : List V} {Q : VK} (h : PostO K φ H (some (.ref m.length, m ++ [.lst xs])) Q) (h1 : RH K H φ m) (r : RVs K H φ xs vs) : ∀ p, H p = none → Q (.ref p) (upd H p (.lst vs)) := by
  obtain ⟨y, m', e, q⟩ := h
  cases e
  intro p np
  obtain ⟨e, a, b⟩ := h1.newL np r
  exact q _ _ _ e a b
theorem o_sub : OpQ X (binaryOp .Sub) subv := .of_eq fun v w H Q φ m x y h1 h2 h3 h4 => by
  unfold subv at h4
  split at h4
  · cases h2; cases h3
    exact ⟨_, op_sub, _, _, rfl, rfl, h4.same h1 rfl⟩
  · exact h4.not.elim
theorem o_add : OpQ X (binaryOp .Add) addv := .of_eq fun v w H Q φ m x y h1 h2 h3 h4 => by
  unfold addv at h4
  split at h4
  · cases h2; cases h3
    exact ⟨_, op_add, _, _, rfl, rfl, h4.same h1 rfl⟩
  · cases h2; cases h3
    split at h4
    · rename_i hz
      exact ⟨_, op_add_str, _, _, rfl, rfl, by rw [str_len, str_len, sl_eq]; exact hz, by rw [str_app]; exact h4.same h1 rfl⟩
    · exact h4.not.elim
  · obtain ⟨p, vs, rfl, a1, a2⟩ := h2
    obtain ⟨q, ws, rfl, b1, b2⟩ := h3
    split at h4
    · rename_i hz
      refine ⟨_, op_catA, p, q, vs, ws, rfl, rfl, a1, b1, by rw [a2.length, b2.length, sl_eq]; exact hz, fun z => ?_, fun z1 z2 => ?_, fun _ _ => ?_⟩
      · subst z
        have e := List.eq_nil_of_length_eq_zero a2.length.symm; subst e
        exact h4.same h1 ⟨q, ws, rfl, b1, b2⟩
      · subst z2
        have e := List.eq_nil_of_length_eq_zero b2.length.symm; subst e
        simp only [List.append_nil] at h4
        exact h4.same h1 ⟨p, vs, rfl, a1, a2⟩
      · exact h4.newT h1 (a2.append b2)
    · exact h4.not.elim
  · split at h4
    · rename_i e1 e2
      obtain ⟨p, vs, _, rfl, a1, a2⟩ := h1.lst h2 e1
      obtain ⟨q, ws, _, rfl, b1, b2⟩ := h1.lst h3 e2
      split at h4
      · rename_i hz
        exact ⟨_, op_cat, p, q, vs, ws, rfl, rfl, a1, b1, by rw [a2.length, b2.length, sl_eq]; exact hz, h4.newL h1 (a2.append b2)⟩
      · exact h4.not.elim
    · exact h4.not.elim
  · exact h4.not.elim
theorem o_mul : OpQ X (binaryOp .Mult) mulv := .of_eq fun v w H Q φ m x y h1 h2 h3 h4 => by
  unfold mulv at h4
  split at h4
  · cases h2; cases h3
    split at h4
    · rename_i hz
      rcases hz with hz | hz
      · exact ⟨_, op_mul, _, _, rfl, rfl, (by rcases hz with z | z; exact .inl (by omega); exact .inr (by omega)), h4.same h1 rfl⟩
      exact ⟨_, op_mulW, _, _, rfl, rfl, wide_mul (a := 4096) (b := 4096) (by rw [← big_eq]; exact hz.1) (by rw [← big_eq]; exact hz.2) (by decide) (by decide) (by decide), h4.same h1 rfl⟩
    · exact h4.not.elim
  · exact h4.not.elim
theorem op_fdivB : OpR X (binaryOp .FloorDiv) (rI (fun _ j => j ≠ 0 ∧ j.natAbs < big) fun i j => .int (i.fdiv j)) := opI fun i j _ _ _ _ _ hc q =>
  floordiv_int hc.1 q (.inl (PyProof.noPylong_of_log2 (Nat.lt_trans (log2_big hc.2) (by decide))))
theorem o_fdiv : OpQ X (binaryOp .FloorDiv) fdivv := .of_eq fun v w H Q φ m x y h1 h2 h3 h4 => by
  unfold fdivv at h4
  split at h4
  · cases h2; cases h3
    split at h4
    · rename_i hz
      exact ⟨_, op_fdivB, _, _, rfl, rfl, hz, h4.same h1 rfl⟩
    · exact h4.not.elim
  · exact h4.not.elim
theorem o_mod : OpQ X (binaryOp .Mod) modv := .of_eq fun v w H Q φ m x y h1 h2 h3 h4 => by
  unfold modv at h4
  split at h4
  · cases h2; cases h3
    split at h4
    · rename_i hz
      exact ⟨_, op_modN, _, _, rfl, rfl, hz, h4.same h1 rfl⟩
    · exact h4.not.elim
  · exact h4.not.elim
theorem o_pow : OpQ X (binaryOp .Pow) powv := .of_eq fun v w H Q φ m x y h1 h2 h3 h4 => by
  unfold powv at h4
  split at h4
  · cases h2; cases h3
    split at h4
    · rename_i hz
      exact ⟨_, op_pow, _, _, rfl, rfl, ⟨hz.1, by omega, hz.2.2⟩, h4.same h1 rfl⟩
    · exact h4.not.elim
  · exact h4.not.elim
theorem o_neg : UnQ X (unaryOp .USub) negv := by
  intro pins s σ H v vv Q I rv ⟨φ, m, x, h1, h2, h4⟩
  unfold negv at h4
  split at h4
  · cases h2
    exact un_neg pins s σ H _ vv Q I rv ⟨_, rfl, h4.same h1 rfl⟩
  · exact h4.not.elim
end

/-! ### comparisons -/
def eqF : PV → PV → Option Bool
  | .non, .non => some true | .int a, .int b => some (decide (a = b)) | .bl a, .bl b => some (decide (a = b)) | .str a, .str b => some (decide (a = b))
  | .non, .int _ => some false | .int _, .non => some false | .non, .bl _ => some false | .bl _, .non => some false | .non, .str _ => some false | .str _, .non => some false
  | .int _, .str _ => some false | .str _, .int _ => some false | .bl _, .str _ => some false | .str _, .bl _ => some false
  | _, _ => none
def cmpI (f : Int → Int → Bool) : PV → PV → MH → OR
  | .int a, .int b, m => some (.bl (f a b), m)
  | _, _, _ => none
def isNon : PV → Bool
  | .non => true
  | _ => false
def isNv : PV → PV → MH → OR
  | x, .non, m => some (.bl (isNon x), m)
  | _, _, _ => none
def notNv : PV → PV → MH → OR
  | x, .non, m => some (.bl (!isNon x), m)
  | _, _, _ => none
theorem rv_non {K : PySem.W.Frag} {H : Hp} {φ : List Addr} : ∀ {x : PV} {v : V}, RV K H φ x v → decide (v = V.non) = isNon x
  | .non, _, h => by cases h; rfl
  | .bl _, _, h => by cases h; rfl
  | .int _, _, h => by cases h; rfl
  | .str _, _, h => by cases h; rfl
  | .tup _, _, h => by obtain ⟨p, vs, rfl, _⟩ := h; rfl
  | .ref _, _, h => by obtain ⟨p, _, rfl⟩ := h; rfl
section
variable {X : Cx}
theorem str_inj {a b : List Nat} : (V.str ⟨a.toArray⟩ = V.str ⟨b.toArray⟩) ↔ a = b := by simp
theorem eqF_scal {K : PySem.W.Frag} {H : Hp} {φ : List Addr} {x y : PV} {v w : V} {b : Bool} (h : eqF x y = some b) (r1 : RV K H φ x v) (r2 : RV K H φ y w) : scal v w = true ∧ decide (v = w) = b := by
  unfold eqF at h
  split at h <;> first
    | (cases h; cases r1; cases r2; refine ⟨rfl, ?_⟩; simp)
    | cases h
theorem o_ltI : OpQ X (compareOp .Lt) (cmpI fun a b => decide (a < b)) := .of_eq fun v w H Q φ m x y h1 h2 h3 h4 => by
  unfold cmpI at h4
  split at h4
  · cases h2; cases h3
    exact ⟨_, op_lt, _, _, rfl, rfl, h4.same h1 rfl⟩
  · exact h4.not.elim
theorem o_leI : OpQ X (compareOp .LtE) (cmpI fun a b => decide (a ≤ b)) := .of_eq fun v w H Q φ m x y h1 h2 h3 h4 => by
  unfold cmpI at h4
  split at h4
  · cases h2; cases h3
    exact ⟨_, op_le, _, _, rfl, rfl, h4.same h1 rfl⟩
  · exact h4.not.elim
theorem o_gtI : OpQ X (compareOp .Gt) (cmpI fun a b => decide (b < a)) := .of_eq fun v w H Q φ m x y h1 h2 h3 h4 => by
  unfold cmpI at h4
  split at h4
  · cases h2; cases h3
    exact ⟨_, op_gt, _, _, rfl, rfl, h4.same h1 rfl⟩
  · exact h4.not.elim
theorem o_geI : OpQ X (compareOp .GtE) (cmpI fun a b => decide (b ≤ a)) := .of_eq fun v w H Q φ m x y h1 h2 h3 h4 => by
  unfold cmpI at h4
  split at h4
  · cases h2; cases h3
    exact ⟨_, op_ge, _, _, rfl, rfl, h4.same h1 rfl⟩
  · exact h4.not.elim
theorem o_is : OpQ X (compareOp .Is) isNv := .of_eq fun v w H Q φ m x y h1 h2 h3 h4 => by
  unfold isNv at h4
  split at h4
  · cases h3
    exact ⟨_, op_isN, rfl, by rw [rv_non h2]; exact h4.same h1 rfl⟩
  · exact h4.not.elim
theorem o_isnot : OpQ X (compareOp .IsNot) notNv := .of_eq fun v w H Q φ m x y h1 h2 h3 h4 => by
  unfold notNv at h4
  split at h4
  · cases h3
    exact ⟨_, op_notN, rfl, by rw [rv_non h2]; exact h4.same h1 rfl⟩
  · exact h4.not.elim
end
end SM

set_option Elab.async false
set_option linter.all false
set_option maxRecDepth 100000
set_option maxHeartbeats 1000000
namespace SM
open PySem PySem.Spec PyProof.Rows L2

/-! ## data at any depth -/
@[simp] def allO {α : Type} : List (Option α) → Option (List α)
  | [] => some []
  | some x :: r => (allO r).map (x :: ·)
  | none :: _ => none
def toD (m : MH) : Nat → PV → Option PyData
  | 0, .non => some .none
  | 0, .bl b => some (.bool b)
  | 0, .int i => some (.int i)
  | 0, .str s => some (.str ⟨s.toArray⟩)
  | 0, _ => none
  | n + 1, .non => some .none
  | n + 1, .bl b => some (.bool b)
  | n + 1, .int i => some (.int i)
  | n + 1, .str s => some (.str ⟨s.toArray⟩)
  | n + 1, .tup xs => (allO (xs.map (toD m n))).map .tuple
  | n + 1, .ref i => match seq? m i with
    | some xs => (allO (xs.map (toD m n))).map .list
    | none => none
section
variable {K : PySem.W.Frag} {H : Hp} {φ : List Addr} {m : MH}
theorem dpAll {f : PV → Option PyData} (hf : ∀ x v d, RV K H φ x v → f x = some d → Dp K H v d) : ∀ (xs : List PV) (vs : List V) (ds : List PyData), RVs K H φ xs vs → allO (xs.map f) = some ds → DpAll K H vs ds
  | [], vs, ds, h, e => by cases h; cases e; exact .nil
  | x :: xs, vs, ds, h, e => by
    obtain ⟨v, r, rfl, h1, h2⟩ := h
    simp only [List.map_cons] at e
    cases hx : f x with
    | none => rw [hx] at e; simp at e
    | some d =>
      rw [hx] at e
      cases hr : allO (xs.map f) with
      | none => simp [hr] at e
      | some dr =>
        simp [hr] at e
        subst e
        exact .cons (hf _ _ _ h1 hx) (dpAll hf xs r dr h2 hr)
theorem dp_of (h : RH K H φ m) : ∀ (n : Nat) (x : PV) (v : V) (d : PyData), RV K H φ x v → toD m n x = some d → Dp K H v d
  | 0, .non, v, d, r, e => by cases r; cases e; exact .non
  | 0, .bl _, v, d, r, e => by cases r; cases e; exact .bl _
  | 0, .int _, v, d, r, e => by cases r; cases e; exact .int _
  | 0, .str _, v, d, r, e => by cases r; cases e; exact .str _
  | 0, .tup _, v, d, r, e => by cases e
  | 0, .ref _, v, d, r, e => by cases e
  | n + 1, .non, v, d, r, e => by cases r; cases e; exact .non
  | n + 1, .bl _, v, d, r, e => by cases r; cases e; exact .bl _
  | n + 1, .int _, v, d, r, e => by cases r; cases e; exact .int _
  | n + 1, .str _, v, d, r, e => by cases r; cases e; exact .str _
  | n + 1, .tup xs, v, d, r, e => by
    obtain ⟨a, vs, rfl, h1, h2⟩ := r
    simp only [toD] at e
    cases hr : allO (xs.map (toD m n)) with
    | none => simp [hr] at e
    | some ds =>
      simp [hr] at e
      subst e
      exact .tup h1 (dpAll (fun x v d r e => dp_of h n x v d r e) xs vs ds h2 hr)
  | n + 1, .ref i, v, d, r, e => by
    simp only [toD] at e
    cases hs : seq? m i with
    | none => rw [hs] at e; cases e
    | some xs =>
      rw [hs] at e
      obtain ⟨a, vs, rfl, h1, h2⟩ := h.seq r hs
      cases hr : allO (xs.map (toD m n)) with
      | none => simp [hr] at e
      | some ds =>
        simp [hr] at e
        subst e
        exact .lst h1 (dpAll (fun x v d r e => dp_of h n x v d r e) xs vs ds h2 hr)
end
/-- two values as data: equal or not -/
def eqD (m : MH) (x y : PV) : Option Bool := match toD m 8 x, toD m 8 y with
  | some d, some e => if SeqAt.shaped d = true ∧ SeqAt.shaped e = true then some (PyData.eqv d e) else none
  | _, _ => none
def eqV (m : MH) (x y : PV) : Option Bool := match eqF x y with
  | some b => some b
  | none => eqD m x y
def eqv : PV → PV → MH → OR := fun x y m => (eqV m x y).map fun b => (.bl b, m)
def nev : PV → PV → MH → OR := fun x y m => (eqV m x y).map fun b => (.bl (!b), m)
theorem eqV_flat {m : MH} {x y : PV} {b : Bool} (h : eqF x y = some b) : eqV m x y = some b := by unfold eqV; rw [h]
/-- x in a list, as data -/
def inD (m : MH) (x y : PV) : Option Bool := match toD m 8 x, y with
  | some d, .ref i => match toD m 8 (.ref i) with
    | some (.list ds) => if SeqAt.shaped d = true ∧ SeqAt.shaped (.list ds) = true then some (ds.any fun z => PyData.eqv z d) else none
    | _ => none
  | _, _ => none
def inv : PV → PV → MH → OR := fun x y m => (inD m x y).map fun b => (.bl b, m)
def ninv : PV → PV → MH → OR := fun x y m => (inD m x y).map fun b => (.bl (!b), m)
section
variable {X : Cx} {k : Nat}
theorem o_eq (hr : Room k X.A) : OpQ X (compareOp .Eq) eqv := .of_eq fun v w H Q φ m x y h1 h2 h3 h4 => by
  unfold eqv eqV at h4
  cases hf : eqF x y with
  | some b =>
    rw [hf] at h4
    obtain ⟨s1, s2⟩ := eqF_scal hf h2 h3
    exact ⟨_, op_eq, s1, by rw [s2]; exact h4.same h1 rfl⟩
  | none =>
    rw [hf] at h4
    unfold eqD at h4
    cases hx : toD m 8 x with
    | none => rw [hx] at h4; exact h4.not.elim
    | some d =>
      cases hy : toD m 8 y with
      | none => rw [hx, hy] at h4; exact h4.not.elim
      | some e =>
        rw [hx, hy] at h4
        simp only at h4
        split at h4
        · rename_i hz
          exact ⟨_, op_eqD hr.units, d, e, dp_of h1 8 x v d h2 hx, dp_of h1 8 y w e h3 hy, hz.1, hz.2, h4.same h1 rfl⟩
        · exact h4.not.elim
theorem o_ne (hr : Room k X.A) : OpQ X (compareOp .NotEq) nev := .of_eq fun v w H Q φ m x y h1 h2 h3 h4 => by
  unfold nev eqV at h4
  cases hf : eqF x y with
  | some b =>
    rw [hf] at h4
    obtain ⟨s1, s2⟩ := eqF_scal hf h2 h3
    exact ⟨_, op_ne, s1, by rw [s2]; exact h4.same h1 rfl⟩
  | none =>
    rw [hf] at h4
    unfold eqD at h4
    cases hx : toD m 8 x with
    | none => rw [hx] at h4; exact h4.not.elim
    | some d =>
      cases hy : toD m 8 y with
      | none => rw [hx, hy] at h4; exact h4.not.elim
      | some e =>
        rw [hx, hy] at h4
        simp only at h4
        split at h4
        · rename_i hz
          exact ⟨_, op_neD hr.units, d, e, dp_of h1 8 x v d h2 hx, dp_of h1 8 y w e h3 hy, hz.1, hz.2, h4.same h1 rfl⟩
        · exact h4.not.elim
theorem o_in (hr : Room k X.A) : OpQ X (compareOp .In) inv := .of_eq fun v w H Q φ m x y h1 h2 h3 h4 => by
  unfold inv inD at h4
  split at h4
  · rename_i d i hx
    split at h4
    · rename_i ds hy
      split at h4
      · rename_i hz
        exact ⟨_, op_inD (by have := hr.un; omega), d, ds, dp_of h1 8 x v d h2 hx, dp_of h1 8 _ w _ h3 hy, hz.1, hz.2, h4.same h1 rfl⟩
      · exact h4.not.elim
    · exact h4.not.elim
  · exact h4.not.elim
theorem o_nin (hr : Room k X.A) : OpQ X (compareOp .NotIn) ninv := .of_eq fun v w H Q φ m x y h1 h2 h3 h4 => by
  unfold ninv inD at h4
  split at h4
  · rename_i d i hx
    split at h4
    · rename_i ds hy
      split at h4
      · rename_i hz
        exact ⟨_, op_notInD (by have := hr.un; omega), d, ds, dp_of h1 8 x v d h2 hx, dp_of h1 8 _ w _ h3 hy, hz.1, hz.2, h4.same h1 rfl⟩
      · exact h4.not.elim
    · exact h4.not.elim
  · exact h4.not.elim
end

/-! ## subscripts, stores -/
def ixv : PV → PV → MH → OR
  | .ref n, .int i, m => match seq? m n with
    | some xs => (atI xs i).map fun x => (x, m)
    | none => none
  | .tup xs, .int i, m => (atI xs i).map fun x => (x, m)
  | .str s, .int i, m => if s.length ≤ 16777216 then (atI s i).map fun c => (.str [c], m) else none
  | _, _, _ => none
def setv : PV → PV → PV → MH → Option MH
  | .ref n, .int i, v, m => match lst? m n with
    | some xs => (ixN xs.length i).map fun j => m.set n (.lst (xs.set j v))
    | none => none
  | _, _, _, _ => none
section
variable {X : Cx} {W : XM} {a b : Expr} {sa sb : SE} {pos : Pos}
theorem RVs.atI {K : PySem.W.Frag} {H : Hp} {φ : List Addr} {xs : List PV} {vs : List V} {i : Int} {x : PV} (h : RVs K H φ xs vs) (e : L2.atI xs i = some x) : ∃ v, L2.atI vs i = some v ∧ RV K H φ x v := by
  unfold L2.atI at e ⊢
  rw [h.length]
  cases hx : ixN xs.length i with
  | none => rw [hx] at e; cases e
  | some j =>
    rw [hx] at e
    obtain ⟨v, h1, h2⟩ := h.get (i := j) (x := x) e
    exact ⟨v, h1, h2⟩
theorem IxR.ofQ {op : PV → PV → MH → OR} (h : ∀ (v w : V) (H : Hp) (Q : VK) φ m x y, RH X.K H φ m → RV X.K H φ x v → RV X.K H φ y w → PostO X.K φ H (op x y m) Q → ∃ r : R2, IxR X r ∧ r v w H Q) :
    IxR X (fun v w H Q => ∃ φ m x y, RH X.K H φ m ∧ RV X.K H φ x v ∧ RV X.K H φ y w ∧ PostO X.K φ H (op x y m) Q) := by
  intro value slice pins s σ H x y v u Q I rx ry ⟨φ, m, px, py, h1, h2, h3, h4⟩ hs
  obtain ⟨r, hr, q⟩ := h x y H Q φ m px py h1 h2 h3 h4
  exact hr value slice pins s σ H x y v u Q I rx ry q hs
theorem o_ix : IxR X (fun v w H Q => ∃ φ m x y, RH X.K H φ m ∧ RV X.K H φ x v ∧ RV X.K H φ y w ∧ PostO X.K φ H (ixv x y m) Q) := IxR.ofQ fun v w H Q φ m x y h1 h2 h3 h4 => by
  unfold ixv at h4
  split at h4
  · rename_i n i
    cases h3
    split at h4
    · rename_i xs hs
      obtain ⟨p, vs, rfl, q1, q2⟩ := h1.seq h2 hs
      cases hx : L2.atI xs i with
      | none => rw [hx] at h4; exact h4.not.elim
      | some x =>
        rw [hx] at h4
        obtain ⟨v, e1, e2⟩ := q2.atI hx
        exact ⟨_, ix_list, p, vs, i, v, rfl, rfl, q1, e1, h4.same h1 e2⟩
    · exact h4.not.elim
  · rename_i xs i
    cases h3
    obtain ⟨p, vs, rfl, q1, q2⟩ := h2
    cases hx : L2.atI xs i with
    | none => rw [hx] at h4; exact h4.not.elim
    | some x =>
      rw [hx] at h4
      obtain ⟨v, e1, e2⟩ := q2.atI hx
      exact ⟨_, ix_tup, p, vs, i, v, rfl, rfl, q1, e1, h4.same h1 e2⟩
  · rename_i s i
    cases h2; cases h3
    split at h4
    · rename_i hz
      cases hx : L2.atI s i with
      | none => rw [hx] at h4; exact h4.not.elim
      | some x =>
        rw [hx] at h4
        exact ⟨_, ix_str, _, i, x, rfl, rfl, by rw [str_len, sl_eq]; exact hz, by simpa using hx, h4.same h1 rfl⟩
    · exact h4.not.elim
  · exact h4.not.elim
theorem q_ix (ha : QE X W a sa) (hb : QE X W b sb) (hs : PlainIx b) : QE X W (.Subscript a b pos) (sOp ixv sa sb) :=
  ⟨pe_imp (pe_ix o_ix ha.pe hb.pe hs) fun σ H Q h => (two h).mono fun v H1 h1 => Rdg.mono h1 fun w H2 ⟨φ, m, x, y, _, c1, c2, c3, c4⟩ => ⟨φ, m, x, y, c1, c2, c3, .of c4⟩⟩

/-! ## argument lists, displays -/
variable {e : Expr} {es : List Expr} {se : SE} {ses : SA}
def aNil : SA := fun _ m => .ok [] m
def aCons (a : SE) (r : SA) : SA := fun l m => (a l m).bind fun x m1 => (r l m1).bind fun xs m2 => .ok (x :: xs) m2
theorem a_nil : QA X W [] aNil := ⟨pa_imp pa_nil fun σ H Q ⟨φ, l, m, h1, h2, h3⟩ => h3 φ H [] Ext.refl h1 rfl⟩
theorem a_cons (he : QE X W e se) (hr : QA X W es ses) (hs : starEach (e :: es) X.env = (false, eval e X.env) :: starEach es X.env := by rfl) : QA X W (e :: es) (aCons se ses) :=
  ⟨pa_imp (pa_cons he.pe hr.pa hs) fun σ H Q ⟨φ, l, m, h1, h2, h3⟩ => ⟨φ, l, m, h1, h2, (Post.bind (rel := rV X.K) h2 h3).mono fun v H1 ⟨φ1, x, m1, e1, a1, b1, c1, d1⟩ =>
    ⟨φ1, l, m1, a1, b1, (Post.bind (rel := rA X.K) b1 d1).mono fun vs H2 ⟨φ2, xs, m2, e2, a2, b2, c2, d2⟩ => d2 φ2 H2 (v :: vs) Ext.refl a2 ⟨v, vs, rfl, RV.ext e2 c1, c2⟩⟩⟩⟩
theorem oneA {K : PySem.W.Frag} {a : SA} {σ : L2.St} {H : Hp} {α β : Type} {rel : SM.Rel α β} {k : List PV → MH → R α} {Q : β → Hp → Prop} (h : Rdg K rel W (fun l m => (a l m).bind fun x m1 => k x m1) σ H Q) :
    Rdg K (rA K) W a σ H fun v H1 => ∃ φ m x l, RH K H1 φ m ∧ RVs K H1 φ x v ∧ Post K rel W φ l σ H1 (k x m) Q := by
  obtain ⟨φ, l, m, h1, h2, h3⟩ := h
  refine ⟨φ, l, m, h1, h2, (Post.bind (rel := rA K) h2 h3).mono ?_⟩
  rintro v H1 ⟨φ1, x, m1, e1, a1, b1, c1, d1⟩
  exact ⟨φ1, m1, x, l, a1, c1, d1⟩
def sTup (s : SA) : SE := fun l m => (s l m).bind fun xs m1 => if xs.length ≤ 16777216 then .ok (.tup xs) m1 else .bad
def sLst (s : SA) : SE := fun l m => (s l m).bind fun xs m1 => if xs.length ≤ 16777216 then .ok (.ref m1.length) (m1 ++ [.lst xs]) else .bad
theorem q_tup {x1} (h : QA X W es ses) : QE X W (.Tuple es x1 pos) (sTup ses) := ⟨pe_imp (pe_tup h.pa) fun σ H Q q => (oneA q).mono fun vs H1 ⟨φ, m, xs, _, c1, c2, c3⟩ => by
  by_cases hz : xs.length ≤ 16777216
  · rw [if_pos hz] at c3
    exact ⟨by rw [c2.length, sl_eq]; exact hz, fun p np => by
      obtain ⟨e, a, b⟩ := c1.newT np c2
      exact c3 _ _ _ e a b⟩
  · rw [if_neg hz] at c3
    exact c3.elim⟩
theorem q_lst (h : QA X W es ses) : QE X W (.List es pos) (sLst ses) := ⟨pe_imp (pe_lst h.pa) fun σ H Q q => (oneA q).mono fun vs H1 ⟨φ, m, xs, _, c1, c2, c3⟩ => by
  by_cases hz : xs.length ≤ 16777216
  · rw [if_pos hz] at c3
    exact ⟨by rw [c2.length, sl_eq]; exact hz, fun p np => by
      obtain ⟨e, a, b⟩ := c1.newL np c2
      exact c3 _ _ _ e a b⟩
  · rw [if_neg hz] at c3
    exact c3.elim⟩

/-! ## calls of builtins -/
def CrQ (X : Cx) (f : Value) (op : List PV → MH → OR) : Prop := CallR X f fun vs H Q => ∃ φ m xs, RH X.K H φ m ∧ RVs X.K H φ xs vs ∧ PostO X.K φ H (op xs m) Q
def MtQ (X : Cx) (id : String) (op : PV → List PV → MH → OR) : Prop := MtR X id fun v vs H Q => ∃ φ m x xs, RH X.K H φ m ∧ RV X.K H φ x v ∧ RVs X.K H φ xs vs ∧ PostO X.K φ H (op x xs m) Q
def sCall (op : List PV → MH → OR) (a : SA) : SE := fun l m => (a l m).bind fun xs m1 => lift (op xs m1)
variable {x : Str} {p : Pos} {id T : String} {op : List PV → MH → OR}
theorem q_callB (hc : CrQ X (.builtin id) op) (hg : Gl X x) (hm : X.mg x = none) (hv : bootBuiltins x = some (.builtin id)) (ha : QA X W (e :: es) ses) (hn : x ≠ "__name__" := by decide) (hdb : (x == ("__debug__" : Str)) = false := by decide)
    (he : starEach (e :: es) X.env = (false, eval e X.env) :: starEach es X.env := by rfl) (hpl : (backTo pos (starEach es X.env)).any (·.1) = false := by rfl) : QE X W (.Call (.Name x p) (e :: es) [] pos) (sCall op ses) :=
  ⟨pe_imp (pe_callB hc hg hm hv ha.pa hn hdb he hpl) fun σ H Q q => (oneA q).mono fun vs H1 ⟨φ, m, xs, _, c1, c2, c3⟩ => ⟨φ, m, xs, c1, c2, .of c3⟩⟩
theorem q_callTy (hc : CrQ X (.type T) op) (hg : Gl X x) (hm : X.mg x = none) (hv : bootBuiltins x = some (.type T)) (ha : QA X W (e :: es) ses) (hn : x ≠ "__name__" := by decide) (hdb : (x == ("__debug__" : Str)) = false := by decide)
    (he : starEach (e :: es) X.env = (false, eval e X.env) :: starEach es X.env := by rfl) (hpl : (backTo pos (starEach es X.env)).any (·.1) = false := by rfl) : QE X W (.Call (.Name x p) (e :: es) [] pos) (sCall op ses) :=
  ⟨pe_imp (pe_callTy hc hg hm hv ha.pa hn hdb he hpl) fun σ H Q q => (oneA q).mono fun vs H1 ⟨φ, m, xs, _, c1, c2, c3⟩ => ⟨φ, m, xs, c1, c2, .of c3⟩⟩
theorem q_callF (hc : CrQ X (.builtin id) op) (hg : Gl X x) (hm : X.mg x = some (.builtin id)) (ha : QA X W (e :: es) ses) (hdb : (x == ("__debug__" : Str)) = false := by decide)
    (he : starEach (e :: es) X.env = (false, eval e X.env) :: starEach es X.env := by rfl) (hpl : (backTo pos (starEach es X.env)).any (·.1) = false := by rfl) : QE X W (.Call (.Name x p) (e :: es) [] pos) (sCall op ses) :=
  ⟨pe_imp (pe_callBfun hc hg hm ha.pa hdb he hpl) fun σ H Q q => (oneA q).mono fun vs H1 ⟨φ, m, xs, _, c1, c2, c3⟩ => ⟨φ, m, xs, c1, c2, .of c3⟩⟩
theorem CrQ.of {f : Value} {op : List PV → MH → OR} (h : ∀ (vs : List V) (H : Hp) (Q : VK) φ m xs, RH X.K H φ m → RVs X.K H φ xs vs → PostO X.K φ H (op xs m) Q → ∃ r, CallR X f r ∧ r vs H Q) : CrQ X f op := by
  intro pins s σ H xs us Q I rs ⟨φ, m, ps, h1, h2, h3⟩
  obtain ⟨r, hr, q⟩ := h xs H Q φ m ps h1 h2 h3
  exact hr pins s σ H xs us Q I rs q
theorem MtQ.of {op : PV → List PV → MH → OR} (h : ∀ (v : V) (vs : List V) (H : Hp) (Q : VK) φ m x xs, RH X.K H φ m → RV X.K H φ x v → RVs X.K H φ xs vs → PostO X.K φ H (op x xs m) Q → ∃ r, MtR X id r ∧ r v vs H Q) : MtQ X id op := by
  intro pins s σ H x xs v us Q I rx rs ⟨φ, m, px, ps, h1, h2, h3, h4⟩
  obtain ⟨r, hr, q⟩ := h x xs H Q φ m px ps h1 h2 h3 h4
  exact hr pins s σ H x xs v us Q I rx rs q
theorem RVs.one {K : PySem.W.Frag} {H : Hp} {φ : List Addr} {x : PV} {vs : List V} (h : RVs K H φ [x] vs) : ∃ v, vs = [v] ∧ RV K H φ x v := by
  obtain ⟨v, r, rfl, h1, h2⟩ := h
  cases h2
  exact ⟨v, rfl, h1⟩
theorem RVs.two {K : PySem.W.Frag} {H : Hp} {φ : List Addr} {x y : PV} {vs : List V} (h : RVs K H φ [x, y] vs) : ∃ v w, vs = [v, w] ∧ RV K H φ x v ∧ RV K H φ y w := by
  obtain ⟨v, r, rfl, h1, h2⟩ := h
  obtain ⟨w, rfl, h3⟩ := RVs.one h2
  exact ⟨v, w, rfl, h1, h3⟩
def lenv : List PV → MH → OR
  | [.ref n], m => (seq? m n).map fun xs => (.int xs.length, m)
  | [.tup xs], m => some (.int xs.length, m)
  | [.str s], m => if s.length ≤ 16777216 then some (.int s.length, m) else none
  | _, _ => none
theorem c_len : CrQ X (.builtin "len") lenv := .of fun vs H Q φ m xs h1 h2 h4 => by
  unfold lenv at h4
  split at h4
  · rename_i n
    obtain ⟨v, rfl, r⟩ := h2.one
    cases hs : seq? m n with
    | none => rw [hs] at h4; exact h4.not.elim
    | some xs =>
      rw [hs] at h4
      obtain ⟨p, vs, rfl, q1, q2⟩ := h1.seq r hs
      exact ⟨_, call_len_seq, p, vs, rfl, .inl q1, by rw [q2.length]; exact h4.same h1 rfl⟩
  · obtain ⟨v, rfl, p, vs, rfl, q1, q2⟩ := h2.one
    exact ⟨_, call_len_seq, p, vs, rfl, .inr q1, by rw [q2.length]; exact h4.same h1 rfl⟩
  · obtain ⟨v, rfl, r⟩ := h2.one
    cases r
    split at h4
    · rename_i hz
      exact ⟨_, call_len_str, _, rfl, by rw [str_len, sl_eq]; exact hz, by rw [str_len]; exact h4.same h1 rfl⟩
    · exact h4.not.elim
  · exact h4.not.elim
def absv : List PV → MH → OR
  | [.int i], m => some (.int (if i < 0 then -i else i), m)
  | _, _ => none
theorem c_abs : CrQ X (.builtin "abs") absv := .of fun vs H Q φ m xs h1 h2 h4 => by
  unfold absv at h4
  split at h4
  · obtain ⟨v, rfl, r⟩ := h2.one
    cases r
    exact ⟨_, call_abs, _, rfl, h4.same h1 rfl⟩
  · exact h4.not.elim
def max2v : List PV → MH → OR
  | [.int i, .int j], m => some (.int (if j > i then j else i), m)
  | _, _ => none
def min2v : List PV → MH → OR
  | [.int i, .int j], m => some (.int (if j < i then j else i), m)
  | _, _ => none
theorem c_max2 (hc : X.calm = true) : CrQ X (.builtin "max") max2v := .of fun vs H Q φ m xs h1 h2 h4 => by
  unfold max2v at h4
  split at h4
  · obtain ⟨v, w, rfl, r, r'⟩ := h2.two
    cases r; cases r'
    exact ⟨_, call_max2 hc, _, _, rfl, h4.same h1 rfl⟩
  · exact h4.not.elim
theorem c_min2 (hc : X.calm = true) : CrQ X (.builtin "min") min2v := .of fun vs H Q φ m xs h1 h2 h4 => by
  unfold min2v at h4
  split at h4
  · obtain ⟨v, w, rfl, r, r'⟩ := h2.two
    cases r; cases r'
    exact ⟨_, call_min2 hc, _, _, rfl, h4.same h1 rfl⟩
  · exact h4.not.elim
def intv : List PV → MH → OR
  | [.int i], m => some (.int i, m)
  | [.bl b], m => some (.int (if b then 1 else 0), m)
  | _, _ => none
theorem c_int : CrQ X (.type "int") intv := .of fun vs H Q φ m xs h1 h2 h4 => by
  unfold intv at h4
  split at h4
  · obtain ⟨v, rfl, r⟩ := h2.one
    cases r
    exact ⟨_, call_int1, .inl ⟨_, rfl, h4.same h1 rfl⟩⟩
  · obtain ⟨v, rfl, r⟩ := h2.one
    cases r
    exact ⟨_, call_int1, .inr ⟨_, rfl, h4.same h1 rfl⟩⟩
  · exact h4.not.elim
def gcdv : List PV → MH → OR
  | [.int i, .int j], m => some (.int (Nat.gcd i.natAbs j.natAbs : Nat), m)
  | _, _ => none
theorem c_gcd : CrQ X (.builtin "math.gcd") gcdv := .of fun vs H Q φ m xs h1 h2 h4 => by
  unfold gcdv at h4
  split at h4
  · obtain ⟨v, w, rfl, r, r'⟩ := h2.two
    cases r; cases r'
    exact ⟨_, cr_gcd, _, _, rfl, h4.same h1 rfl⟩
  · exact h4.not.elim

/-! ## isinstance -/
def tyName : PV → String
  | .non => "NoneType" | .bl _ => "bool" | .int _ => "int" | .str _ => "str" | .tup _ => "tuple" | .ref _ => "list"
def okTy (m : MH) : PV → Bool
  | .ref n => (seq? m n).isSome
  | _ => true
def isTab : String → String → Bool
  | "bool", "int" => true
  | a, b => a == b
theorem tyx_of {K : PySem.W.Frag} {H : Hp} {φ : List Addr} {m : MH} (h : RH K H φ m) : ∀ {x : PV} {v : V}, RV K H φ x v → okTy m x = true → TyX K H v (.type (tyName x))
  | .non, _, r, _ => by cases r; exact .base .non
  | .bl _, _, r, _ => by cases r; exact .base (.bl _)
  | .int _, _, r, _ => by cases r; exact .base (.int _)
  | .str _, _, r, _ => by cases r; exact .base (.str _)
  | .tup xs, v, r, _ => by
    obtain ⟨p, vs, rfl, q1, q2⟩ := r
    rcases q1 with (q | ⟨o, q⟩) | ⟨o, its, n, q, c, _⟩
    · exact .base (.tup q)
    · exact .fTuple q
    · exact .kTuple q c
  | .ref n, v, r, hk => by
    simp only [okTy] at hk
    cases hs : seq? m n with
    | none => rw [hs] at hk; cases hk
    | some xs =>
      obtain ⟨p, vs, rfl, q1, q2⟩ := h.seq r hs
      rcases q1 with (q | ⟨o, q⟩) | ⟨o, its, n, q, c, _⟩
      · exact .base (.lst q)
      · exact .base (.frz q)
      · exact .kList q c
theorem kit_tab : ∀ a ∈ ["NoneType", "bool", "int", "str", "tuple", "list"], ∀ T ∈ ["list", "tuple", "bool", "str", "int"], kitB a T = some (isTab a T) := by decide +kernel
theorem kit_all {K : PySem.W.Frag} {T : String} (hT : T = "list" ∨ T = "tuple" ∨ T = "bool" ∨ T = "str" ∨ T = "int") (x : PV) : PySem.W.kitOne K (.type (tyName x)) (.type T) = some (isTab (tyName x) T) := by
  refine kit_ty (kit_tab _ ?_ _ ?_)
  · cases x <;> simp [tyName]
  · simpa using hT
def sIsi (T : String) (a : SE) : SE := fun l m => (a l m).bind fun x m1 => if okTy m1 x = true then .ok (.bl (isTab (tyName x) T)) m1 else .bad
theorem q_isi {Tn : Str} {pT : Pos} (hT : T = "list" ∨ T = "tuple" ∨ T = "bool" ∨ T = "str" ∨ T = "int") (hg : Gl X "isinstance") (hm : X.mg "isinstance" = none) (hgT : Gl X Tn) (hmT : X.mg Tn = none) (hvT : bootBuiltins Tn = some (.type T)) (ha : QE X W a sa)
    (hn : Tn ≠ "__name__" := by decide) (hd : (Tn == ("__debug__" : Str)) = false := by decide)
    (he : starEach [a, .Name Tn pT] X.env = [(false, eval a X.env), (false, eval (.Name Tn pT) X.env)] := by rfl)
    (he2 : starEach [.Name Tn pT] X.env = [(false, eval (.Name Tn pT) X.env)] := by rfl) :
    QE X W (.Call (.Name "isinstance" p) [a, .Name Tn pT] [] pos) (sIsi T sa) :=
  ⟨pe_imp (pe_callB call_isi hg hm (by decide +kernel) (pa_cons ha.pe (pa_cons (pe_bltn (v := .ty T) hgT hmT hvT rfl hn hd) pa_nil (by rw [he2] <;> rfl)) (by rw [he, he2])) (by decide) (by decide) (by rw [he, he2]) (by rw [he2] <;> rfl)) fun σ H Q h => (one h).mono fun v H1 ⟨φ, m, x, _, c1, c2, c4⟩ => by
    by_cases hk : okTy m x = true
    · rw [if_pos hk] at c4
      exact ⟨v, .ty T, _, _, _, rfl, .ty T, tyx_of c1 c2 hk, kit_all hT x, c4 φ H1 _ Ext.refl c1 rfl⟩
    · rw [if_neg hk] at c4
      exact c4.elim⟩

/-! ## methods of built-in types -/
def isLst (m : MH) : PV → Bool
  | .ref n => (seq? m n).isSome
  | _ => false
def isStr : PV → Bool
  | .str _ => true
  | _ => false
def sMeth (ty : MH → PV → Bool) (op : PV → List PV → MH → OR) (o : SE) (a : SA) : SE := fun l m => (o l m).bind fun x m1 => if ty m1 x = true then (a l m1).bind fun xs m2 => lift (op x xs m2) else .bad
def TyQ (X : Cx) (T : String) (ty : MH → PV → Bool) : Prop := ∀ H φ m x v, RH X.K H φ m → RV X.K H φ x v → ty m x = true → tyV X.K T v H
theorem ty_list : TyQ X "list" isLst := fun H φ m x v h r e => by
  cases x with
  | ref n =>
    simp only [isLst] at e
    cases hs : seq? m n with
    | none => rw [hs] at e; cases e
    | some xs =>
      obtain ⟨p, vs, rfl, q1, q2⟩ := h.seq r hs
      exact .inl ⟨rfl, vs, q1⟩
  | _ => cases e
theorem ty_str : TyQ X "str" (fun _ => isStr) := fun H φ m x v h r e => by
  cases x with
  | str s => cases r; rfl
  | _ => cases e
variable {o : Expr} {name : Str} {apos cpos : Pos} {ty : MH → PV → Bool} {mop : PV → List PV → MH → OR} {so : SE}
theorem q_m (hty : TyQ X T ty) (pa : PlainAttrs T) (slot : Slot T name id) (hty' : typeOf (.builtin id) = pure (.type "method_descriptor")) (hm : MtQ X id mop) (ho : QE X W o so) (ha : QA X W (e :: es) ses)
    (hbase : attributeBase o name X.env (eval o X.env) = eval o X.env := by rfl)
    (hfew : ((backTo cpos (starEach (e :: es) X.env)).all (fun x => !x.1) && (backToKw cpos (keywordEach [] X.env)).all (fun x => x.1.isSome)
      && decide ((e :: es).length + ([] : List Keyword).length + (if ([] : List Keyword).isEmpty then 0 else 1) < 30)) = true := by rfl)
    (hline : (apos.endLine == cpos.line) = true := by rfl) (hs : starEach (e :: es) X.env = (false, eval e X.env) :: starEach es X.env := by rfl) (hplain : (backTo cpos (starEach es X.env)).any (·.1) = false := by rfl) :
    QE X W (.Call (.Attribute o name apos) (e :: es) [] cpos) (sMeth ty mop so ses) :=
  ⟨pe_imp (pe_bm pa slot hty' hm ho.pe ha.pa hbase hfew hline hs hplain) fun σ H Q ⟨φ, l, m, h1, h2, h3⟩ => ⟨φ, l, m, h1, h2, (Post.bind (rel := rV X.K) h2 h3).mono fun v H1 ⟨φ1, x, m1, e1, a1, b1, c1, d1⟩ => by
    by_cases hk : ty m1 x = true
    · rw [if_pos hk] at d1
      exact ⟨hty _ _ _ _ _ a1 c1 hk, φ1, l, m1, a1, b1, (Post.bind (rel := rA X.K) b1 d1).mono fun vs H2 ⟨φ2, xs, m2, e2, a2, b2, c2, d2⟩ => ⟨φ2, m2, x, xs, a2, RV.ext e2 c1, c2, .of d2⟩⟩
    · rw [if_neg hk] at d1
      exact d1.elim⟩⟩
theorem q_m0 (hty : TyQ X T ty) (pa : PlainAttrs T) (slot : Slot T name id) (hty' : typeOf (.builtin id) = pure (.type "method_descriptor")) (hm : MtQ X id mop) (ho : QE X W o so)
    (hbase : attributeBase o name X.env (eval o X.env) = eval o X.env := by rfl) (hline : (apos.endLine == cpos.line) = true := by rfl) : QE X W (.Call (.Attribute o name apos) [] [] cpos) (sMeth ty mop so aNil) :=
  ⟨pe_imp (pe_bm0 pa slot hty' hm ho.pe hbase hline) fun σ H Q ⟨φ, l, m, h1, h2, h3⟩ => ⟨φ, l, m, h1, h2, (Post.bind (rel := rV X.K) h2 h3).mono fun v H1 ⟨φ1, x, m1, e1, a1, b1, c1, d1⟩ => by
    by_cases hk : ty m1 x = true
    · rw [if_pos hk] at d1
      exact ⟨hty _ _ _ _ _ a1 c1 hk, φ1, m1, x, [], a1, c1, rfl, .of d1⟩
    · rw [if_neg hk] at d1
      exact d1.elim⟩⟩
def appendv : PV → List PV → MH → OR
  | .ref n, [y], m => match lst? m n with
    | some xs => if xs.length < 16777216 then some (.non, m.set n (.lst (xs ++ [y]))) else none
    | none => none
  | _, _, _ => none
theorem m_append : MtQ X "list.append" appendv := .of fun v vs H Q φ m x xs h1 h2 h3 h4 => by
  unfold appendv at h4
  split at h4
  · rename_i n y
    split at h4
    · rename_i ys hs
      split at h4
      · rename_i hz
        obtain ⟨w, rfl, r⟩ := h3.one
        obtain ⟨p, ws, e1, rfl, q1, q2⟩ := h1.lst h2 hs
        obtain ⟨z, m', e, q⟩ := h4
        cases e
        refine ⟨_, mt_append, p, ws, w, rfl, rfl, q1, by rw [q2.length, sl_eq]; exact hz, ?_⟩
        obtain ⟨e2, e3⟩ := h1.setL e1 (lst_some hs) (q2.append (show RVs X.K H φ [y] [w] from ⟨w, [], rfl, r, rfl⟩))
        exact q _ _ _ e2 e3 rfl
      · exact h4.not.elim
    · exact h4.not.elim
  · exact h4.not.elim
end
end SM

set_option Elab.async false
set_option linter.all false
set_option maxRecDepth 100000
set_option maxHeartbeats 1000000
namespace SM
open PySem PySem.Spec PyProof.Rows L2

/-! ## tests -/
def asB : PV → MH → R Bool
  | .bl b, m => .ok b m
  | _, _ => .bad
def truv (m : MH) : PV → Option Bool
  | .non => some false
  | .bl b => some b
  | .int i => some (i != 0)
  | .str s => if s.length ≤ 16777216 then some (!s.isEmpty) else none
  | .tup xs => some (!xs.isEmpty)
  | .ref n => (seq? m n).map fun xs => !xs.isEmpty
def tTru (s : SE) : SB := fun l m => (s l m).bind fun x m1 => match truv m1 x with
  | some b => .ok b m1
  | none => .bad
def tBool (s : SE) : SB := fun l m => (s l m).bind asB
def tNotS (s : SB) : SB := fun l m => (s l m).bind fun b m1 => .ok (!b) m1
def tAndS (s t : SB) : SB := fun l m => (s l m).bind fun b m1 => if b = true then t l m1 else .ok false m1
def tOrS (s t : SB) : SB := fun l m => (s l m).bind fun b m1 => if b = true then .ok true m1 else t l m1
def sChain (f g : PV → PV → MH → OR) (a b c : SE) : SE := fun l m => (a l m).bind fun x m1 => (b l m1).bind fun y m2 => (lift (f x y m2)).bind fun z m3 => (asB z m3).bind fun k m4 => if k = true then (c l m4).bind fun u m5 => lift (g y u m5) else .ok (.bl false) m4
def sIf (t : SB) (a b : SE) : SE := fun l m => (t l m).bind fun k m1 => if k = true then a l m1 else b l m1
def sAndV (a b : SE) : SE := fun l m => (a l m).bind fun x m1 => (asB x m1).bind fun k m2 => if k = true then b l m2 else .ok (.bl false) m2
def sOrV (a b : SE) : SE := fun l m => (a l m).bind fun x m1 => (asB x m1).bind fun k m2 => if k = true then .ok (.bl true) m2 else b l m2
def sNotV (a : SE) : SE := fun l m => (a l m).bind fun x m1 => (asB x m1).bind fun k m2 => .ok (.bl (!k)) m2
theorem isEmpty_len {α β : Type} {xs : List α} {ys : List β} (h : xs.length = ys.length) : xs.isEmpty = ys.isEmpty := by
  cases xs <;> cases ys <;> simp at h <;> rfl
section
variable {K : PySem.W.Frag} {H : Hp} {φ : List Addr} {m : MH} {W : XM} {l : Loc} {σ : L2.St}
theorem truv_of (h : RH K H φ m) : ∀ {x : PV} {v : V} {b : Bool}, RV K H φ x v → truv m x = some b → TruV K v H b
  | .non, _, _, r, e => by cases r; cases e; rfl
  | .bl _, _, _, r, e => by cases r; cases e; rfl
  | .int _, _, _, r, e => by cases r; cases e; rfl
  | .str s, _, b, r, e => by
    cases r
    simp only [truv] at e
    split at e
    · rename_i hz
      cases e
      refine ⟨by rw [str_len, sl_eq]; exact hz, ?_⟩
      rw [str_len]
      cases s with
      | nil => rfl
      | cons a s =>
        have hne : (((a :: s).length : Nat) : Int) ≠ 0 := by simp; omega
        rw [bne_iff_ne.mpr hne]; rfl
    · cases e
  | .tup xs, v, b, r, e => by
    obtain ⟨p, vs, rfl, q1, q2⟩ := r
    cases e
    exact .inr (.inl ⟨vs, q1, by rw [isEmpty_len q2.length]⟩)
  | .ref n, v, b, r, e => by
    simp only [truv] at e
    cases hs : seq? m n with
    | none => rw [hs] at e; cases e
    | some xs =>
      rw [hs] at e
      obtain ⟨p, vs, rfl, q1, q2⟩ := h.seq r hs
      cases e
      exact .inl ⟨vs, q1, by rw [isEmpty_len q2.length]⟩
theorem post_asB {x : PV} {v : V} {Q : Bool → Hp → Prop} (h1 : RH K H φ m) (r : RV K H φ x v) (h : Post K rB W φ l σ H (asB x m) Q) : ∃ k, v = .bl k ∧ Q k H := by
  unfold asB at h
  split at h
  · cases r
    exact ⟨_, rfl, h φ H _ Ext.refl h1 rfl⟩
  · exact h.elim
theorem post_asB' {α β : Type} {rel : Rel α β} {x : PV} {v : V} {k : Bool → MH → R α} {Q : β → Hp → Prop} (r : RV K H φ x v) (h : Post K rel W φ l σ H ((asB x m).bind k) Q) : ∃ c, v = .bl c ∧ Post K rel W φ l σ H (k c m) Q := by
  unfold asB at h
  split at h
  · cases r
    exact ⟨_, rfl, h⟩
  · exact h.elim
end
/-- how a heap op goes on -/
theorem PostO.bind {K : PySem.W.Frag} {W : XM} {φ : List Addr} {l : Loc} {σ : L2.St} {H : Hp} {o : OR} {α β : Type} {rel : Rel α β} {k : PV → MH → R α} {Q : β → Hp → Prop} (hl : RL K H φ l σ) (h : Post K rel W φ l σ H ((lift o).bind k) Q) :
    PostO K φ H o (fun v H1 => ∃ φ1 x m1, Ext K φ H φ1 H1 ∧ RH K H1 φ1 m1 ∧ RL K H1 φ1 l σ ∧ RV K H1 φ1 x v ∧ Post K rel W φ1 l σ H1 (k x m1) Q) := .of (Post.bind hl h)
section
variable {X : Cx} {W : XM} {a b c e : Expr} {sa sb sc s : SE} {ta tb : SB} {pos : Pos} {rest : List Expr}
theorem t_val (h : QE X W e s) (he : ∀ whole, isTrue e X.env whole = (do let v ← whole; standAt e.pos; holding [v] (truthy v)) := by intro _; rfl) : QT X W e (tTru s) :=
  ⟨pt_imp (pt_truth h.pe he) fun σ H Q q => (one q).mono fun v H1 ⟨φ, m, x, l, c1, c2, c3⟩ => by
    cases ht : truv m x with
    | none => rw [ht] at c3; exact c3.elim
    | some b =>
      rw [ht] at c3
      exact ⟨b, truv_of c1 c2 ht, c3 φ H1 b Ext.refl c1 rfl⟩⟩
theorem Rdg.asB' {σ : L2.St} {H : Hp} {Q : Bool → Hp → Prop} {K : PySem.W.Frag} (h : Rdg K rB W (tBool s) σ H Q) : Rdg K (rV K) W s σ H fun v H1 => ∃ k, v = .bl k ∧ Q k H1 := by
  obtain ⟨φ, l, m, h1, h2, h3⟩ := h
  refine ⟨φ, l, m, h1, h2, (Post.bind (rel := rV K) h2 h3).mono fun v H1 ⟨φ1, x, m1, e1, a1, b1, c1, d1⟩ => post_asB a1 c1 d1⟩
/-- a test's two readings -/
theorem t_cmp {op : CmpOp} {f : PV → PV → MH → OR} (ho : OpQ X (compareOp op) f) (ha : QE X W a sa) (hb : QE X W b sb) (hm : behindInMarks op b = false) : QT X W (.Compare a [op] [b] pos) (tBool (sOp f sa sb)) :=
  ⟨pt_imp (pt_cmpR ho ha.pe hb.pe hm) fun σ H Q h => (two (Rdg.asB' h)).mono fun v H1 h1 => Rdg.mono h1 fun w H2 ⟨φ, m, x, y, _, c1, c2, c3, c4⟩ => ⟨φ, m, x, y, c1, c2, c3, .of c4⟩⟩
theorem chain_at {f g : PV → PV → MH → OR} {α β : Type} {rel : SM.Rel α β} {kk : R PV → R α} {σ : L2.St} {H : Hp} {Q : VK} (h : Rdg X.K (rV X.K) W (sChain f g sa sb sc) σ H Q) :
    tChain (fun v w H Q => ∃ φ m x y, RH X.K H φ m ∧ RV X.K H φ x v ∧ RV X.K H φ y w ∧ PostO X.K φ H (f x y m) Q) (fun v w H Q => ∃ φ m x y, RH X.K H φ m ∧ RV X.K H φ x v ∧ RV X.K H φ y w ∧ PostO X.K φ H (g x y m) Q)
      (Rdg X.K (rV X.K) W sa) (Rdg X.K (rV X.K) W sb) (Rdg X.K (rV X.K) W sc) σ H Q := by
  obtain ⟨φ, l, m, h1, h2, h3⟩ := h
  refine ⟨φ, l, m, h1, h2, (Post.bind (rel := rV X.K) h2 h3).mono fun v H1 ⟨φ1, x, m1, e1, a1, b1, c1, d1⟩ => ⟨φ1, l, m1, a1, b1, (Post.bind (rel := rV X.K) b1 d1).mono fun w H2 ⟨φ2, y, m2, e2, a2, b2, c2, d2⟩ => ⟨φ2, m2, x, y, a2, RV.ext e2 c1, c2, ?_⟩⟩⟩
  obtain ⟨z, m3, e3, q3⟩ := PostO.bind b2 d2
  refine ⟨z, m3, e3, fun φ' H' v' f1 f2 f3 => ?_⟩
  obtain ⟨φ4, x4, m4, g1, g2, g3, g4, g5⟩ := q3 φ' H' v' f1 f2 f3
  obtain ⟨k, rfl, g6⟩ := post_asB' g4 g5
  refine ⟨k, rfl, ?_⟩
  cases k with
  | true =>
    refine iteT ⟨φ4, l, m4, g2, g3, (Post.bind (rel := rV X.K) g3 g6).mono fun u H5 ⟨φ5, u', m5, e5, a5, b5, c5, d5⟩ => ⟨φ5, m5, y, u', a5, RV.ext e5 (RV.ext g1 c2), c5, .of d5⟩⟩
  | false => exact iteF (g6 φ4 H' _ Ext.refl g2 rfl)
theorem q_chain {op op' : CmpOp} {f g : PV → PV → MH → OR} (ho : OpQ X (compareOp op) f) (ho' : OpQ X (compareOp op') g) (ha : QE X W a sa) (hb : QE X W b sb) (hc : QE X W c sc)
    (hm : lastMarks [op, op'] [b, c] = false := by with_unfolding_all rfl) : QE X W (.Compare a [op, op'] [b, c] pos) (sChain f g sa sb sc) :=
  ⟨pe_imp (pe_chain ho ho' ha.pe hb.pe hc.pe hm) fun σ H Q h => chain_at (rel := rB) (kk := fun _ => .bad) h⟩
theorem t_chain {op op' : CmpOp} {f g : PV → PV → MH → OR} (ho : OpQ X (compareOp op) f) (ho' : OpQ X (compareOp op') g) (ha : QE X W a sa) (hb : QE X W b sb) (hc : QE X W c sc)
    (hm : lastMarks [op, op'] [b, c] = false := by with_unfolding_all rfl) : QT X W (.Compare a [op, op'] [b, c] pos) (tBool (sChain f g sa sb sc)) :=
  ⟨pt_imp (pt_chain ho ho' ha.pe hb.pe hc.pe hm) fun σ H Q h => chain_at (rel := rB) (kk := fun _ => .bad) (Rdg.asB' h)⟩
/-- two tests in a row -/
theorem oneB {K : PySem.W.Frag} {a : SB} {σ : L2.St} {H : Hp} {α β : Type} {rel : SM.Rel α β} {k : Loc → Bool → MH → R α} {Q : β → Hp → Prop} (h : Rdg K rel W (fun l m => (a l m).bind fun x m1 => k l x m1) σ H Q) :
    Rdg K rB W a σ H fun v H1 => ∃ φ m l, RH K H1 φ m ∧ RL K H1 φ l σ ∧ Post K rel W φ l σ H1 (k l v m) Q := by
  obtain ⟨φ, l, m, h1, h2, h3⟩ := h
  refine ⟨φ, l, m, h1, h2, (Post.bind (rel := rB) h2 h3).mono ?_⟩
  rintro v H1 ⟨φ1, x, m1, e1, a1, b1, rfl, d1⟩
  exact ⟨φ1, m1, l, a1, b1, d1⟩
theorem w_and1 (ha : QT X W a ta) : QW X W (.BoolOp .And [a] pos) ta := ⟨pw_imp (pw_and1 ha.pt) fun _ _ _ h => h⟩
theorem w_or1 (ha : QT X W a ta) : QW X W (.BoolOp .Or [a] pos) ta := ⟨pw_imp (pw_or1 ha.pt) fun _ _ _ h => h⟩
theorem w_and (ha : QT X W a ta) (hb : QW X W (.BoolOp .And (b :: rest) pos) tb) : QW X W (.BoolOp .And (a :: b :: rest) pos) (tAndS ta tb) :=
  ⟨pw_imp (pw_and ha.pt hb.pw) fun σ H Q h => (oneB h).mono fun v H1 ⟨φ, m, l, c1, c2, c3⟩ => by
    cases v with
    | true => exact iteT ⟨φ, l, m, c1, c2, c3⟩
    | false => exact iteF (c3 φ H1 _ Ext.refl c1 rfl)⟩
theorem w_or (ha : QT X W a ta) (hb : QW X W (.BoolOp .Or (b :: rest) pos) tb) : QW X W (.BoolOp .Or (a :: b :: rest) pos) (tOrS ta tb) :=
  ⟨pw_imp (pw_or ha.pt hb.pw) fun σ H Q h => (oneB h).mono fun v H1 ⟨φ, m, l, c1, c2, c3⟩ => by
    cases v with
    | false => exact iteF ⟨φ, l, m, c1, c2, c3⟩
    | true => exact iteT (c3 φ H1 _ Ext.refl c1 rfl)⟩
theorem t_w (h : QW X W e ta) : QT X W e ta := ⟨h.pw.pt⟩
theorem t_not (ha : QT X W a ta) : QT X W (.UnaryOp .Not a pos) (tNotS ta) :=
  ⟨pt_imp (pt_not ha.pt) fun σ H Q h => (oneB h).mono fun v H1 ⟨φ, m, l, c1, c2, c3⟩ => c3 φ H1 _ Ext.refl c1 rfl⟩
theorem q_ifx (ht : QT X W c ta) (ha : QE X W a sa) (hb : QE X W b sb) : QE X W (.IfExp c a b pos) (sIf ta sa sb) :=
  ⟨pe_imp (pe_ifExp ht.pt ha.pe hb.pe) fun σ H Q h => (oneB h).mono fun v H1 ⟨φ, m, l, c1, c2, c3⟩ => by
    cases v with
    | true => exact iteT ⟨φ, l, m, c1, c2, c3⟩
    | false => exact iteF ⟨φ, l, m, c1, c2, c3⟩⟩
theorem q_bo1 {op} (ha : QE X W a sa) : QE X W (.BoolOp op [a] pos) sa := ⟨pe_one ha.pe⟩
theorem oneL {K : PySem.W.Frag} {a : SE} {σ : L2.St} {H : Hp} {α β : Type} {rel : SM.Rel α β} {k : Loc → PV → MH → R α} {Q : β → Hp → Prop} (h : Rdg K rel W (fun l m => (a l m).bind fun x m1 => k l x m1) σ H Q) :
    Rdg K (rV K) W a σ H fun v H1 => ∃ φ m x l, RH K H1 φ m ∧ RL K H1 φ l σ ∧ RV K H1 φ x v ∧ Post K rel W φ l σ H1 (k l x m) Q := by
  obtain ⟨φ, l, m, h1, h2, h3⟩ := h
  refine ⟨φ, l, m, h1, h2, (Post.bind (rel := rV K) h2 h3).mono ?_⟩
  rintro v H1 ⟨φ1, x, m1, e1, a1, b1, c1, d1⟩
  exact ⟨φ1, m1, x, l, a1, b1, c1, d1⟩
theorem q_and (ha : QE X W a sa) (hb : QE X W (.BoolOp .And (b :: rest) pos) sb) : QE X W (.BoolOp .And (a :: b :: rest) pos) (sAndV sa sb) :=
  ⟨pe_imp (pe_and ha.pe hb.pe) fun σ H Q h => (oneL h).mono fun v H1 ⟨φ, m, x, l, c1, c2, c3, c4⟩ => by
    obtain ⟨k, rfl, c5⟩ := post_asB' c3 c4
    refine ⟨k, rfl, ?_⟩
    cases k with
    | true => exact iteT ⟨φ, l, m, c1, c2, c5⟩
    | false => exact iteF (c5 φ H1 _ Ext.refl c1 rfl)⟩
theorem q_or (ha : QE X W a sa) (hb : QE X W (.BoolOp .Or (b :: rest) pos) sb) : QE X W (.BoolOp .Or (a :: b :: rest) pos) (sOrV sa sb) :=
  ⟨pe_imp (pe_or ha.pe hb.pe) fun σ H Q h => (oneL h).mono fun v H1 ⟨φ, m, x, l, c1, c2, c3, c4⟩ => by
    obtain ⟨k, rfl, c5⟩ := post_asB' c3 c4
    refine ⟨k, rfl, ?_⟩
    cases k with
    | false => exact iteF ⟨φ, l, m, c1, c2, c5⟩
    | true => exact iteT (c5 φ H1 _ Ext.refl c1 rfl)⟩
theorem q_not (ha : QE X W a sa) : QE X W (.UnaryOp .Not a pos) (sNotV sa) :=
  ⟨pe_imp (pe_not ha.pe) fun σ H Q h => (oneL h).mono fun v H1 ⟨φ, m, x, l, c1, c2, c3, c4⟩ => by
    obtain ⟨k, rfl, c5⟩ := post_asB' c3 c4
    exact ⟨k, rfl, c5 φ H1 _ Ext.refl c1 rfl⟩⟩
end

/-! ## calls of own defs that raise nothing -/
abbrev FS := List PV → MH → R PV
def PostC (K : PySem.W.Frag) (φ : List Addr) (H : Hp) (r : R PV) (Q : VK) : Prop := match r with
  | .ok x m => ∀ φ' H' v, Ext K φ H φ' H' → RH K H' φ' m → RV K H' φ' x v → Q v H'
  | _ => False
def SpQ (K : PySem.W.Frag) (n : Nat) (f : FS) : Sp := fun vs H Q _ => vs.length = n ∧ ∃ φ m xs, RH K H φ m ∧ RVs K H φ xs vs ∧ PostC K φ H (f xs m) Q
def Cal (P : Program) (w : World) (K : PySem.W.Frag) (mg : Str → Option Value) (base : Heap) (x : Str) (n k : Nat) (f : FS) : Prop :=
  ∃ (fa : Addr) (fd : FuncData) (ps : List Str), ps.length = n ∧ FnOk P w K mg base CX0 k fa fd ps (SpQ K n f) ∧ mg x = some (.ref fa) ∧ PySem.W.keepIn K (.ref fa) = true ∧ Binds K fd ps []
def noex (r : R PV) : R PV := match r with
  | .ok x m => .ok x m
  | _ => .bad
def sCallU (n : Nat) (f : FS) (a : SA) : SE := fun l m => (a l m).bind fun xs m1 => if xs.length = n then noex (f xs m1) else .bad
section
variable {X : Cx} {W : XM} {e : Expr} {es : List Expr} {ses : SA} {x : Str} {p pos : Pos} {n k j : Nat} {f : FS}
theorem q_call (C : Cal X.prog X.w X.K X.mg X.base x n k f) (hr : Room j X.A) (hk : k ≤ j) (hg : Gl X x) (ha : QA X W (e :: es) ses) (hdb : (x == ("__debug__" : Str)) = false := by decide)
    (he : starEach (e :: es) X.env = (false, eval e X.env) :: starEach es X.env := by rfl) (hpl : (backTo pos (starEach es X.env)).any (·.1) = false := by rfl) : QE X W (.Call (.Name x p) (e :: es) [] pos) (sCallU n f ses) := by
  obtain ⟨fa, fd, ps, hps, F, hm, hkp, hb⟩ := C
  refine ⟨pe_imp (pe_call (E := E0) F (hr.mono hk) hg hm hkp hb .nil pass0 ha.pa hdb he hpl) fun σ H Q q => (oneA q).mono fun vs H1 ⟨φ, m, xs, l, c1, c2, c3⟩ => ?_⟩
  rw [List.append_nil]
  by_cases hz : xs.length = n
  · rw [if_pos hz] at c3
    refine ⟨by rw [c2.length]; exact hz, φ, m, xs, c1, c2, ?_⟩
    cases hf : f xs m with
    | ok y m' => rw [hf] at c3; exact c3
    | ex c fs m' => rw [hf] at c3; exact c3.elim
    | bad => rw [hf] at c3; exact c3.elim
  · rw [if_neg hz] at c3
    exact c3.elim
end

/-! ## statements -/
def PostS (K : PySem.W.Frag) (W : XM) (φ : List Addr) (H : Hp) (r : RS) (D : Ends) : Prop := match r with
  | .nx l m => ∀ φ' σ' H', Ext K φ H φ' H' → RH K H' φ' m → RL K H' φ' l σ' → D.nx σ' H'
  | .bk l m => ∀ φ' σ' H', Ext K φ H φ' H' → RH K H' φ' m → RL K H' φ' l σ' → D.bk σ' H'
  | .ct l m => ∀ φ' σ' H', Ext K φ H φ' H' → RH K H' φ' m → RL K H' φ' l σ' → D.ct σ' H'
  | .rt x m => ∀ φ' H' v, Ext K φ H φ' H' → RH K H' φ' m → RV K H' φ' x v → D.rt v H'
  | .ex c fs l m => ∀ φ' σ' H', Ext K φ H φ' H' → RH K H' φ' m → RL K H' φ' l σ' → W c fs φ' l m σ' H'
  | .bad => False
def RdS (K : PySem.W.Frag) (W : XM) (s : SS) : TS := fun D σ H => ∃ φ l m, RH K H φ m ∧ RL K H φ l σ ∧ PostS K W φ H (s l m) D
structure QS (X : Cx) (W : XM) (st : Stmt) (s : SS) : Prop where
  ps : PS X st (RdS X.K W s)
structure QSs (X : Cx) (W : XM) (st : List Stmt) (s : SS) : Prop where
  ps : PSs X st (RdS X.K W s)
theorem ps_imp {X : Cx} {e : Stmt} {t t' : TS} (h : PS X e t) (i : ∀ D σ H, t' D σ H → t D σ H) : PS X e t' := ⟨fun pins s σ H D I q => h.run pins s σ H D I (i D σ H q)⟩
theorem pss_imp {X : Cx} {e : List Stmt} {t t' : TS} (h : PSs X e t) (i : ∀ D σ H, t' D σ H → t D σ H) : PSs X e t' := ⟨fun pins s σ H D I q => h.run pins s σ H D I (i D σ H q)⟩
section
variable {K : PySem.W.Frag} {W : XM} {φ φ' : List Addr} {H H' : Hp} {r : RS} {D D' : Ends}
theorem PostS.ext (e : Ext K φ H φ' H') (h : PostS K W φ H r D) : PostS K W φ' H' r D := by
  cases r with
  | nx l m => exact fun φ2 σ2 H2 e2 => h φ2 σ2 H2 (e.trans e2)
  | bk l m => exact fun φ2 σ2 H2 e2 => h φ2 σ2 H2 (e.trans e2)
  | ct l m => exact fun φ2 σ2 H2 e2 => h φ2 σ2 H2 (e.trans e2)
  | rt x m => exact fun φ2 H2 v e2 => h φ2 H2 v (e.trans e2)
  | ex c fs l m => exact fun φ2 σ2 H2 e2 => h φ2 σ2 H2 (e.trans e2)
  | bad => exact h
/-- an expression's end, then the statement's -/
theorem PostS.then {α β : Type} {rel : Rel α β} {e : R α} {k : α → MH → RS} {l : Loc} {σ : L2.St} (hl : RL K H φ l σ) (h : PostS K W φ H (R.then l e k) D) :
    Post K rel W φ l σ H e (fun v H1 => ∃ φ1 x m1, Ext K φ H φ1 H1 ∧ RH K H1 φ1 m1 ∧ RL K H1 φ1 l σ ∧ rel H1 φ1 x v ∧ PostS K W φ1 H1 (k x m1) D) := by
  cases e with
  | ok x m => exact fun φ2 H2 v e a b => ⟨φ2, x, m, e, a, hl.ext e, b, PostS.ext e h⟩
  | ex c fs m => exact fun φ2 H2 e a => h φ2 σ H2 e a (hl.ext e)
  | bad => exact h
end
def xNil : SS := fun l m => .nx l m
def xSeq (s t : SS) : SS := fun l m => (s l m).seq t
def xBrk : SS := fun l m => .bk l m
def xCnt : SS := fun l m => .ct l m
def xExpr (s : SE) : SS := fun l m => R.then l (s l m) fun _ m1 => .nx l m1
def xRet (s : SE) : SS := fun l m => R.then l (s l m) fun x m1 => .rt x m1
def xRetN : SS := fun _ m => .rt .non m
def xIf (t : SB) (a b : SS) : SS := fun l m => R.then l (t l m) fun k m1 => if k = true then a l m1 else b l m1
def xSet (i : Nat) (s : SE) : SS := fun l m => R.then l (s l m) fun x m1 => .nx (l.set i (some x)) m1
def xPar (i j : Nat) (a b : SE) : SS := fun l m => R.then l (a l m) fun x m1 => R.then l (b l m1) fun y m2 => .nx ((l.set i (some x)).set j (some y)) m2
abbrev STg := PV → Loc → MH → Option (Loc × MH)
def xAsg (s : SE) (g : STg) : SS := fun l m => R.then l (s l m) fun x m1 => match g x l m1 with
  | some (l', m') => .nx l' m'
  | none => .bad
theorem RL.set {K : PySem.W.Frag} {H : Hp} {φ : List Addr} {l : Loc} {σ : L2.St} {x : PV} {v : V} (h : RL K H φ l σ) (i : Nat) (r : RV K H φ x v) : RL K H φ (l.set i (some x)) (σ.set i (some v)) := by
  refine ⟨by simp [h.1], fun j y e => ?_⟩
  by_cases hj : i = j
  · subst hj
    by_cases hi : i < l.length
    · rw [List.getElem?_set_self hi] at e
      cases e
      exact ⟨v, by rw [List.getElem?_set_self (by rw [← h.1]; exact hi)], r⟩
    · rw [List.getElem?_eq_none (by simp; omega)] at e; cases e
  · rw [List.getElem?_set_ne hj] at e
    obtain ⟨w, e1, e2⟩ := h.2 j y e
    exact ⟨w, by rw [List.getElem?_set_ne hj]; exact e1, e2⟩
/-- a target -/
def RdG (K : PySem.W.Frag) (g : STg) : TG := fun v σ H Q => ∃ φ l m x, RH K H φ m ∧ RL K H φ l σ ∧ RV K H φ x v ∧ ∃ l' m', g x l m = some (l', m') ∧ ∀ φ' σ' H', Ext K φ H φ' H' → RH K H' φ' m' → RL K H' φ' l' σ' → Q σ' H'
structure QG (X : Cx) (tg : Expr) (g : STg) : Prop where
  pg : PG X tg (RdG X.K g)
abbrev STgs := List PV → Loc → MH → Option (Loc × MH)
def RdGs (K : PySem.W.Frag) (g : STgs) : TGs := fun vs σ H Q => ∃ φ l m xs, RH K H φ m ∧ RL K H φ l σ ∧ RVs K H φ xs vs ∧ ∃ l' m', g xs l m = some (l', m') ∧ ∀ φ' σ' H', Ext K φ H φ' H' → RH K H' φ' m' → RL K H' φ' l' σ' → Q σ' H'
structure QGs (X : Cx) (tg : List Expr) (g : STgs) : Prop where
  pg : PGs X tg (RdGs X.K g)
theorem pg_imp {X : Cx} {e : Expr} {t t' : TG} (h : PG X e t) (i : ∀ v σ H Q, t' v σ H Q → t v σ H Q) : PG X e t' := ⟨fun pins s σ H v u Q I r q => h.run pins s σ H v u Q I r (i v σ H Q q)⟩
theorem pgs_imp {X : Cx} {e : List Expr} {t t' : TGs} (h : PGs X e t) (i : ∀ v σ H Q, t' v σ H Q → t v σ H Q) : PGs X e t' := ⟨fun pins s σ H v u Q I r q => h.run pins s σ H v u Q I r (i v σ H Q q)⟩
theorem pg_or {X : Cx} {e : Expr} {t t' : TG} (h : PG X e t) (h' : PG X e t') : PG X e (fun v σ H Q => t v σ H Q ∨ t' v σ H Q) := ⟨fun pins s σ H v u Q I r q => by
  rcases q with q | q
  · exact h.run pins s σ H v u Q I r q
  · exact h'.run pins s σ H v u Q I r q⟩
def gNm (i : Nat) : STg := fun x l m => some (l.set i (some x), m)
def gNilS : STgs := fun xs l m => match xs with
  | [] => some (l, m)
  | _ => none
def gConsS (g : STg) (r : STgs) : STgs := fun xs l m => match xs with
  | x :: xs => match g x l m with
    | some (l', m') => r xs l' m'
    | none => none
  | [] => none
def gTupS (n : Nat) (g : STgs) : STg := fun x l m => match x with
  | .tup xs => if xs.length = n then g xs l m else none
  | .ref i => match seq? m i with
    | some xs => if xs.length = n then g xs l m else none
    | none => none
  | _ => none
def gSubS (o i : SE) : STg := fun x l m => match o l m with
  | .ok ov m1 => match i l m1 with
    | .ok iv m2 => (setv ov iv x m2).map fun m3 => (l, m3)
    | _ => none
  | _ => none
section
variable {X : Cx} {W : XM} {e o i : Expr} {es : List Expr} {se so si : SE} {pos : Pos}
theorem g_name (i : Nat) {x : Str} (hN : X.N.Nodup) (hi : X.N[i]? = some x := by rfl) (hx : L2.Loc X.env.scope x := by first | exact .inl rfl | exact .inr rfl) (hf : X.fn x = true ∨ X.env.scope.names.lookup x = some .local := by first | exact .inl rfl | exact .inr rfl) : QG X (.Name x pos) (gNm i) :=
  ⟨pg_imp (pg_name hN hi hx hf) fun v σ H Q ⟨φ, l, m, x, h1, h2, h3, l', m', e, q⟩ => by
    cases e
    exact q φ _ H Ext.refl h1 (h2.set i h3)⟩
theorem gs_nil : QGs X [] gNilS := ⟨pgs_imp pgs_nil fun v σ H Q ⟨φ, l, m, x, h1, h2, h3, l', m', e, q⟩ => by
  unfold gNilS at e
  split at e
  · cases h3
    cases e
    exact ⟨rfl, q φ _ H Ext.refl h1 h2⟩
  · cases e⟩
theorem gs_cons {g : STg} {r : STgs} (h1 : QG X e g) (h2 : QGs X es r) (hs : (assignEach (e :: es) X.env).map (·.2) = assign e X.env :: (assignEach es X.env).map (·.2) := by rfl) : QGs X (e :: es) (gConsS g r) :=
  ⟨pgs_imp (pgs_cons h1.pg h2.pg hs) fun v σ H Q ⟨φ, l, m, x, h1, h2, h3, l', m', e, q⟩ => by
    unfold gConsS at e
    split at e
    · rename_i x xs
      obtain ⟨w, ws, rfl, r1, r2⟩ := h3
      split at e
      · rename_i l1 m1 e1
        exact ⟨w, ws, rfl, φ, l, m, x, h1, h2, r1, l1, m1, e1, fun φ1 σ1 H1 x1 a1 b1 => ⟨φ1, l1, m1, xs, a1, b1, RVs.ext x1 r2, l', m', e, fun φ2 σ2 H2 x2 a2 b2 => q φ2 σ2 H2 (x1.trans x2) a2 b2⟩⟩
      · cases e
    · cases e⟩
theorem g_tup {k n : Nat} {g : STgs} (hc : X.calm = true) (h : QGs X es g) (hn : (assignEach es X.env).length = n := by rfl) (hst : (assignEach es X.env).findIdx? (·.1) = none := by rfl) : QG X (.Tuple es k pos) (gTupS n g) :=
  ⟨pg_imp (pg_or (pg_tup hc h.pg hn hst) (pg_unl hc h.pg hn hst)) fun v σ H Q ⟨φ, l, m, x, h1, h2, h3, l', m', e, q⟩ => by
    unfold gTupS at e
    split at e
    · obtain ⟨a, vs, rfl, r1, r2⟩ := h3
      split at e
      · rename_i hz
        exact .inl ⟨a, vs, rfl, r1, by rw [r2.length]; exact hz, φ, l, m, _, h1, h2, r2, l', m', e, q⟩
      · cases e
    · split at e
      · rename_i xs hs
        obtain ⟨a, vs, rfl, r1, r2⟩ := h1.seq h3 hs
        split at e
        · rename_i hz
          exact .inr ⟨a, vs, rfl, r1, by rw [r2.length]; exact hz, φ, l, m, _, h1, h2, r2, l', m', e, q⟩
        · cases e
      · cases e
    · cases e⟩
theorem s_set : PSet X (fun o i v H Q => ∃ φ m x y z m', RH X.K H φ m ∧ RV X.K H φ x o ∧ RV X.K H φ y i ∧ RV X.K H φ z v ∧ setv x y z m = some m' ∧ ∀ φ' H', Ext X.K φ H φ' H' → RH X.K H' φ' m' → Q H') := by
  intro pins s σ H o i v ov iv u Q I ro ri rv ⟨φ, m, x, y, z, m', h1, h2, h3, h4, h5, h6⟩
  unfold setv at h5
  split at h5
  · cases h3
    split at h5
    · rename_i xs hs
      obtain ⟨p, vs, e1, rfl, q1, q2⟩ := h1.lst h2 hs
      rename_i n k _
      cases hj : ixN xs.length k with
      | none => rw [hj] at h5; cases h5
      | some j =>
        rw [hj] at h5
        cases h5
        obtain ⟨e2, e3⟩ := h1.setL e1 (lst_some hs) (RVs.set h4 j q2)
        exact set_list pins s σ H _ _ v ov iv u Q I ro ri rv ⟨p, vs, k, j, rfl, rfl, q1, by rw [q2.length]; exact hj, h6 _ _ e2 e3⟩
    · cases h5
  · cases h5
theorem g_sub (ho : QE X W0 o so) (hi : QE X W0 i si)
    (ha : ∀ v, assign (.Subscript o i pos) X.env v = (do
      let ov ← holding [v] (eval o X.env)
      let iv ← holding [v, ov] (eval i X.env)
      standAt pos
      holding [v, ov, iv] (setItem ov iv v)
      release [v, ov, iv] []) := by intro _; rfl) : QG X (.Subscript o i pos) (gSubS so si) :=
  ⟨pg_imp (pg_sub ho.pe hi.pe s_set ha) fun v σ H Q ⟨φ, l, m, x, h1, h2, h3, l', m', e, q⟩ => by
    unfold gSubS at e
    split at e
    · rename_i ov m1 e1
      split at e
      · rename_i iv m2 e2
        refine ⟨φ, l, m, h1, h2, ?_⟩
        rw [e1]
        intro φ1 H1 v1 x1 a1 c1
        refine ⟨φ1, l, m1, a1, h2.ext x1, ?_⟩
        rw [e2]
        intro φ2 H2 v2 x2 a2 c2
        cases hs : setv ov iv x m2 with
        | none => rw [hs] at e; cases e
        | some m3 =>
          rw [hs] at e
          cases e
          exact ⟨φ2, m2, ov, iv, x, m', a2, RV.ext x2 c1, c2, RV.ext (x1.trans x2) h3, hs, fun φ3 H3 x3 a3 => q φ3 σ H3 ((x1.trans x2).trans x3) a3 (h2.ext ((x1.trans x2).trans x3))⟩
      · cases e
    · cases e⟩
end
section
variable {X : Cx} {W : XM} {st : Stmt} {rest : List Stmt} {s t : SS} {e : Expr} {se : SE} {pos : Pos}
theorem x_nil : QSs X W [] xNil := ⟨pss_imp pss_nil fun D σ H ⟨φ, l, m, h1, h2, h3⟩ => h3 φ σ H Ext.refl h1 h2⟩
theorem x_cons (h1 : QS X W st s) (h2 : QSs X W rest t) : QSs X W (st :: rest) (xSeq s t) := ⟨pss_imp (pss_cons h1.ps h2.ps) fun D σ H ⟨φ, l, m, h1, h2, h3⟩ => by
  refine ⟨φ, l, m, h1, h2, ?_⟩
  unfold xSeq at h3
  cases hs : s l m with
  | nx l' m' => rw [hs] at h3; exact fun φ' σ' H' x a b => ⟨φ', l', m', a, b, PostS.ext x h3⟩
  | bk l' m' => rw [hs] at h3; exact h3
  | ct l' m' => rw [hs] at h3; exact h3
  | rt l' m' => rw [hs] at h3; exact h3
  | ex c fs l' m' => rw [hs] at h3; exact h3
  | bad => rw [hs] at h3; exact h3⟩
theorem x_one (h1 : QS X W st s) : QSs X W [st] s := ⟨pss_one h1.ps⟩
theorem x_pass : QS X W (.Pass pos) xNil := ⟨ps_imp ps_pass fun D σ H ⟨φ, l, m, h1, h2, h3⟩ => h3 φ σ H Ext.refl h1 h2⟩
theorem x_doc {x j pos'} : QS X W (.Expr (.Constant (.str x) j pos) pos') xNil := ⟨ps_imp ps_doc fun D σ H ⟨φ, l, m, h1, h2, h3⟩ => h3 φ σ H Ext.refl h1 h2⟩
theorem x_brk : QS X W (.Break pos) xBrk := ⟨ps_imp ps_break fun D σ H ⟨φ, l, m, h1, h2, h3⟩ => h3 φ σ H Ext.refl h1 h2⟩
theorem x_cnt : QS X W (.Continue pos) xCnt := ⟨ps_imp ps_continue fun D σ H ⟨φ, l, m, h1, h2, h3⟩ => h3 φ σ H Ext.refl h1 h2⟩
theorem x_expr (he : QE X W e se) (hs : swapsWith e none pos.line X.env = pure false := by rfl) : QS X W (.Expr e pos) (xExpr se) := ⟨ps_imp (ps_expr he.pe hs) fun D σ H ⟨φ, l, m, h1, h2, h3⟩ =>
  ⟨φ, l, m, h1, h2, (PostS.then (rel := rV X.K) h2 h3).mono fun v H1 ⟨φ1, x, m1, e1, a1, b1, c1, d1⟩ => d1 φ1 σ H1 Ext.refl a1 b1⟩⟩
theorem x_ret (he : QE X W e se) : QS X W (.Return (some e) pos) (xRet se) := ⟨ps_imp (ps_ret he.pe) fun D σ H ⟨φ, l, m, h1, h2, h3⟩ =>
  ⟨φ, l, m, h1, h2, (PostS.then (rel := rV X.K) h2 h3).mono fun v H1 ⟨φ1, x, m1, e1, a1, b1, c1, d1⟩ => d1 φ1 H1 v Ext.refl a1 c1⟩⟩
theorem x_retN : QS X W (.Return none pos) xRetN := ⟨ps_imp ps_retN fun D σ H ⟨φ, l, m, h1, h2, h3⟩ => h3 φ H _ Ext.refl h1 rfl⟩
theorem x_if {c : Expr} {a b : List Stmt} {tc : SB} {sa sb : SS} (hc : QT X W c tc) (ha : QSs X W a sa) (hb : QSs X W b sb) : QS X W (.If c a b pos) (xIf tc sa sb) := ⟨ps_imp (ps_if hc.pt ha.ps hb.ps) fun D σ H ⟨φ, l, m, h1, h2, h3⟩ =>
  ⟨φ, l, m, h1, h2, (PostS.then (rel := rB) h2 h3).mono fun v H1 ⟨φ1, x, m1, e1, a1, b1, c1, d1⟩ => by
    cases c1
    cases v with
    | true => exact iteT ⟨φ1, l, m1, a1, b1, d1⟩
    | false => exact iteF ⟨φ1, l, m1, a1, b1, d1⟩⟩⟩
theorem x_set (i : Nat) {x : Str} {pos' : Pos} (hN : X.N.Nodup) (he : QE X W e se) (hi : X.N[i]? = some x := by rfl) (hx : L2.Loc X.env.scope x := by first | exact .inl rfl | exact .inr rfl) (hs : swapsWith e (some (.Name x pos')) pos.line X.env = pure false := by rfl)
    (hf : X.fn x = true ∨ X.env.scope.names.lookup x = some .local := by first | exact .inl rfl | exact .inr rfl) : QS X W (.Assign [.Name x pos'] e pos) (xSet i se) := ⟨ps_imp (ps_set hN hi hx he.pe hs hf) fun D σ H ⟨φ, l, m, h1, h2, h3⟩ =>
  ⟨φ, l, m, h1, h2, (PostS.then (rel := rV X.K) h2 h3).mono fun v H1 ⟨φ1, x, m1, e1, a1, b1, c1, d1⟩ => d1 φ1 _ H1 Ext.refl a1 (b1.set i c1)⟩⟩
theorem x_asg {tg : Expr} {g : STg} (he : QE X W e se) (hg : QG X tg g) (hs : swapsWithSole [tg] e pos.line X.env = pure false := by rfl) (hw : swappedStores [tg] e X.env = pure none := by rfl)
    (h1 : (assignEach [tg] X.env).map (·.2) = [assign tg X.env] := by rfl) : QS X W (.Assign [tg] e pos) (xAsg se g) := ⟨ps_imp (ps_asg he.pe hg.pg hs hw h1) fun D σ H ⟨φ, l, m, h1, h2, h3⟩ =>
  ⟨φ, l, m, h1, h2, (PostS.then (rel := rV X.K) h2 h3).mono fun v H1 ⟨φ1, x, m1, e1, a1, b1, c1, d1⟩ => by
    cases hg : g x l m1 with
    | none => rw [hg] at d1; exact d1.elim
    | some p =>
      obtain ⟨l', m'⟩ := p
      rw [hg] at d1
      exact ⟨φ1, l, m1, x, a1, b1, c1, l', m', hg, fun φ2 σ2 H2 x2 a2 b2 => d1 φ2 σ2 H2 x2 a2 b2⟩⟩⟩
theorem x_par (i j : Nat) {x y : Str} {a b : Expr} {sa sb : SE} {px py pt : Pos} {kt k2 pt2} (hc : X.calm = true) (hN : X.N.Nodup) (ha : QE X W a sa) (hb : QE X W b sb) (hi : X.N[i]? = some x := by rfl) (hj : X.N[j]? = some y := by rfl) (hij : i ≠ j := by decide)
    (hx : X.env.scope.names.lookup x = some .local := by rfl) (hy : X.env.scope.names.lookup y = some .local := by rfl)
    (hw : swappedStores [.Tuple [.Name x px, .Name y py] kt pt] (.Tuple [a, b] k2 pt2) X.env = pure (some [x, y]) := by rfl)
    (hs : swapsWithSole [.Tuple [.Name x px, .Name y py] kt pt] (.Tuple [a, b] k2 pt2) pos.line X.env = pure false := by rfl)
    (he1 : starEach [a, b] X.env = (false, eval a X.env) :: starEach [b] X.env := by rfl) (he2 : starEach [b] X.env = (false, eval b X.env) :: starEach [] X.env := by rfl) :
    QS X W (.Assign [.Tuple [.Name x px, .Name y py] kt pt] (.Tuple [a, b] k2 pt2) pos) (xPar i j sa sb) :=
  ⟨ps_imp (ps_par hc hN hi hj hij hx hy (pa_cons ha.pe (pa_cons hb.pe pa_nil he2) he1) hw hs) fun D σ H ⟨φ, l, m, h1, h2, h3⟩ =>
    ⟨φ, l, m, h1, h2, (PostS.then (rel := rV X.K) h2 h3).mono fun v H1 ⟨φ1, x, m1, e1, a1, b1, c1, d1⟩ => ⟨φ1, l, m1, a1, b1, (PostS.then (rel := rV X.K) b1 d1).mono fun w H2 ⟨φ2, y, m2, e2, a2, b2, c2, d2⟩ =>
      ⟨v, w, rfl, d2 φ2 _ H2 Ext.refl a2 ((b2.set i (RV.ext e2 c1)).set j c2)⟩⟩⟩⟩
end

/-! ## loops -/
structure ITM where
  items : List PV
  src : Option Nat
def ITM.ok (it : ITM) (m : MH) : Prop := match it.src with
  | none => True
  | some n => seq? m n = some it.items
abbrev SI := Loc → MH → R ITM
open Classical in
noncomputable def forL (it : ITM) (g : STg) (body : SS) : List PV → Loc → MH → RS
  | [], l, m => if it.ok m then .nx l m else .bad
  | x :: r, l, m => if it.ok m then match g x l m with
      | some (l1, m1) => match body l1 m1 with
        | .nx l2 m2 => forL it g body r l2 m2
        | .ct l2 m2 => forL it g body r l2 m2
        | .bk l2 m2 => .nx l2 m2
        | r => r
      | none => .bad
    else .bad
noncomputable def xFor (si : SI) (g : STg) (body : SS) : SS := fun l m => R.then l (si l m) fun it m1 => forL it g body it.items l m1
def RdI (K : PySem.W.Frag) (W : XM) (si : SI) : TI := fun σ H RR => ∃ φ l m, RH K H φ m ∧ RL K H φ l σ ∧ match si l m with
  | .ok it m' => ∀ φ' H' J, Ext K φ H φ' H' → RH K H' φ' m' →
      Walk J it.items.length (fun H2 => ∃ φ2 m2, Ext K φ' H' φ2 H2 ∧ RH K H2 φ2 m2 ∧ it.ok m2)
        (fun i H2 v H3 => H3 = H2 ∧ ∀ φ2 m2, Ext K φ' H' φ2 H2 → RH K H2 φ2 m2 → it.ok m2 → ∃ x, it.items[i]? = some x ∧ RV K H2 φ2 x v) → RR J H'
  | .ex c fs m' => ∀ φ' H', Ext K φ H φ' H' → RH K H' φ' m' → W c fs φ' l m' σ H'
  | .bad => False
structure QI (X : Cx) (W : XM) (tg iter : Expr) (si : SI) : Prop where
  pi : PI X tg iter (RdI X.K W si)
theorem pi_imp {X : Cx} {tg e : Expr} {t t' : TI} (h : PI X tg e t) (i : ∀ σ H R, t' σ H R → t σ H R) : PI X tg e t' := ⟨fun pins s σ H R I q => h.run pins s σ H R I (i σ H R q)⟩
theorem pi_or {X : Cx} {tg e : Expr} {t t' : TI} (h : PI X tg e t) (h' : PI X tg e t') : PI X tg e (fun σ H R => t σ H R ∨ t' σ H R) := ⟨fun pins s σ H R I q => by
  rcases q with q | q
  · exact h.run pins s σ H R I q
  · exact h'.run pins s σ H R I q⟩
section
variable {X : Cx} {W : XM} {iter tg e : Expr} {body : List Stmt} {si : SI} {g : STg} {sb : SS} {pos : Pos} {se : SE}
theorem x_for (hp : PassesOwn (model X.prog X.w) X.A X.env X.xe) (hc : X.calm = true) (hi : QI X W tg iter si) (hg : QG X tg g) (hb : QSs X W body sb)
    (hs : ∀ x, foldedSetIterable iter X.env x = pure x := by intro _; rfl) : QS X W (.For tg iter body [] pos) (xFor si g sb) := ⟨ps_imp (ps_for hp hc hi.pi hg.pg hb.ps hs) fun D σ H ⟨φ, l, m, h1, h2, h3⟩ => by
  refine ⟨φ, l, m, h1, h2, ?_⟩
  unfold xFor at h3
  cases hsi : si l m with
  | bad => rw [hsi] at h3; exact h3
  | ex c fs m' => rw [hsi] at h3; exact fun φ' H' x a => h3 φ' σ H' x a (h2.ext x)
  | ok it m' =>
    rw [hsi] at h3
    intro φ' H' J x0 a0 w
    refine for_it w (fun i σ2 H2 => ∃ φ2 l2 m2, Ext X.K φ' H' φ2 H2 ∧ RH X.K H2 φ2 m2 ∧ RL X.K H2 φ2 l2 σ2 ∧ PostS X.K W φ2 H2 (forL it g sb (it.items.drop i) l2 m2) D) ⟨φ', l, m', Ext.refl, a0, h2.ext x0, PostS.ext x0 h3⟩ ?_ ?_ ?_
    · rintro i σ2 H2 hi ⟨φ2, l2, m2, x2, a2, b2, c2⟩
      refine ⟨φ2, m2, x2, a2, ?_⟩
      cases hd : it.items.drop i with
      | nil =>
        rw [hd] at c2
        unfold forL at c2
        by_cases hk : it.ok m2
        · exact hk
        · rw [if_neg hk] at c2; exact c2.elim
      | cons x r =>
        rw [hd] at c2
        unfold forL at c2
        by_cases hk : it.ok m2
        · exact hk
        · rw [if_neg hk] at c2; exact c2.elim
    · rintro i v σ2 H2 H3 hi ⟨φ2, l2, m2, x2, a2, b2, c2⟩ ⟨rfl, hv⟩
      have hi' : i < it.items.length := hi
      rw [List.drop_eq_getElem_cons hi'] at c2
      unfold forL at c2
      by_cases hk : it.ok m2
      · rw [if_pos hk] at c2
        obtain ⟨x0', hx1, hx2⟩ := hv φ2 m2 x2 a2 hk
        rw [List.getElem?_eq_getElem hi'] at hx1
        cases hx1
        cases hgx : g it.items[i] l2 m2 with
        | none => rw [hgx] at c2; exact c2.elim
        | some p =>
          obtain ⟨l3, m3⟩ := p
          rw [hgx] at c2
          dsimp only at c2
          refine ⟨φ2, l2, m2, _, a2, b2, hx2, l3, m3, hgx, fun φ3 σ3 H3 x3 a3 b3 => ⟨φ3, l3, m3, a3, b3, ?_⟩⟩
          have c3 := PostS.ext x3 c2
          cases hb : sb l3 m3 with
          | nx l4 m4 =>
            rw [hb] at c3
            exact fun φ4 σ4 H4 x4 a4 b4 => ⟨φ4, l4, m4, (x2.trans x3).trans x4, a4, b4, PostS.ext x4 c3⟩
          | ct l4 m4 =>
            rw [hb] at c3
            exact fun φ4 σ4 H4 x4 a4 b4 => ⟨φ4, l4, m4, (x2.trans x3).trans x4, a4, b4, PostS.ext x4 c3⟩
          | bk l4 m4 => rw [hb] at c3; exact c3
          | rt x m4 => rw [hb] at c3; exact c3
          | ex c fs l4 m4 => rw [hb] at c3; exact c3
          | bad => rw [hb] at c3; exact c3
      · rw [if_neg hk] at c2; exact c2.elim
    · rintro σ2 H2 ⟨φ2, l2, m2, x2, a2, b2, c2⟩
      rw [List.drop_of_length_le (Nat.le_refl _)] at c2
      unfold forL at c2
      by_cases hk : it.ok m2
      · rw [if_pos hk] at c2
        exact c2 φ2 σ2 H2 Ext.refl a2 b2
      · rw [if_neg hk] at c2; exact c2.elim⟩
/-- over a list or a tuple -/
def iSeq (s : SE) : SI := fun l m => (s l m).bind fun x m1 => match x with
  | .tup xs => .ok ⟨xs, none⟩ m1
  | .ref n => match seq? m1 n with
    | some xs => .ok ⟨xs, some n⟩ m1
    | none => .bad
  | _ => .bad
theorem i_seq (he : QE X W e se) : QI X W tg e (iSeq se) := ⟨pi_imp (pi_or (pi_list he.pe) (pi_tup he.pe)) fun σ H RR ⟨φ, l, m, h1, h2, h3⟩ => by
  unfold iSeq at h3
  cases hs : se l m with
  | bad => rw [hs] at h3; exact h3.elim
  | ex c fs m' =>
    rw [hs] at h3
    exact .inl ⟨φ, l, m, h1, h2, by rw [hs]; exact h3⟩
  | ok x m1 =>
    rw [hs] at h3
    simp only [R.bind] at h3
    cases x with
    | tup xs =>
      refine .inr ⟨φ, l, m, h1, h2, ?_⟩
      rw [hs]
      rintro φ' H' v x1 a1 ⟨p, vs, rfl, r1, r2⟩
      refine ⟨p, rfl, ⟨vs, r1⟩, h3 φ' H' _ x1 a1 ?_⟩
      have w0 : Walk (Itt X.K p) vs.length (fun H => SqT X.K H p vs) (YAt vs) := walk_tup
      rw [r2.length] at w0
      refine w0.mono (fun H2 ⟨φ2, m2, x2, _⟩ => x2.tup _ _ r1) fun i H2 v H3 hi ⟨φ2, m2, x2, _⟩ y => ⟨y.1, fun φ3 m3 x3 a3 o3 => ?_⟩
      obtain ⟨v', e1, e2⟩ := r2.get (List.getElem?_eq_getElem hi)
      rw [y.2] at e1
      cases e1
      exact ⟨_, List.getElem?_eq_getElem hi, RV.ext x3 e2⟩
    | ref n =>
      simp only at h3
      cases hq : seq? m1 n with
      | none => rw [hq] at h3; exact h3.elim
      | some xs =>
        rw [hq] at h3
        refine .inl ⟨φ, l, m, h1, h2, ?_⟩
        rw [hs]
        rintro φ' H' v x1 a1 r0
        obtain ⟨p, vs, rfl, r1, r2⟩ := a1.seq r0 hq
        refine ⟨p, rfl, ⟨vs, r1⟩, h3 φ' H' _ x1 a1 ⟨fun i H2 hi ⟨φ2, m2, x2, a2, o2⟩ => ?_, fun H2 ⟨φ2, m2, x2, a2, o2⟩ => ?_, fun i H2 v H3 hi ⟨φ2, m2, x2, a2, o2⟩ y => ⟨y.1, fun φ3 m3 x3 a3 o3 => ?_⟩⟩⟩
        · obtain ⟨q, vs2, e1, e2, e3⟩ := a2.seq (RV.ext x2 r0) o2
          cases e1
          obtain ⟨v', e4, _⟩ := e3.get (List.getElem?_eq_getElem hi)
          exact ⟨vs2, v', e2, e4⟩
        · obtain ⟨q, vs2, e1, e2, e3⟩ := a2.seq (RV.ext x2 r0) o2
          cases e1
          exact ⟨vs2, e2, by rw [e3.length]; exact Nat.le_refl _⟩
        · obtain ⟨q, vs2, e1, e2, e3⟩ := a3.seq (RV.ext x3 r0) o3
          cases e1
          obtain ⟨v', e4, e5⟩ := e3.get (List.getElem?_eq_getElem hi)
          rw [y.2 vs2 e2] at e4
          cases e4
          exact ⟨_, List.getElem?_eq_getElem hi, e5⟩
    | _ => exact h3.elim⟩
/-- range(b), range(a, b) -/
@[simp] def rng (lo hi : Int) : List PV := (List.range (hi - lo).toNat).map fun i => .int (lo + (i : Nat))
def iRng1S (b : SE) : SI := fun l m => (b l m).bind fun y m1 => match y with
  | .int j => if -4611686018427387904 ≤ j ∧ j < 4611686018427387904 then .ok ⟨rng 0 j, none⟩ m1 else .bad
  | _ => .bad
def iRng2S (a b : SE) : SI := fun l m => (a l m).bind fun x m1 => (b l m1).bind fun y m2 => match x, y with
  | .int i, .int j => if -4611686018427387904 ≤ i ∧ i < 4611686018427387904 ∧ -4611686018427387904 ≤ j ∧ j < 4611686018427387904 then .ok ⟨rng i j, none⟩ m2 else .bad
  | _, _ => .bad
theorem rng_len (lo hi : Int) : (rng lo hi).length = (hi - lo).toNat := by simp
theorem rng_get {lo hi : Int} {i : Nat} (h : i < (hi - lo).toNat) : (rng lo hi)[i]? = some (.int (lo + (i : Nat))) := by
  simp [rng, List.getElem?_map, List.getElem?_range h]
theorem walk_rng {K : PySem.W.Frag} {φ' : List Addr} {H' : Hp} {lo hi : Int} : Walk (Itr lo (hi - lo).toNat) (rng lo hi).length (fun H2 => ∃ φ2 m2, Ext K φ' H' φ2 H2 ∧ RH K H2 φ2 m2 ∧ ITM.ok ⟨rng lo hi, none⟩ m2)
    (fun i H2 v H3 => H3 = H2 ∧ ∀ φ2 m2, Ext K φ' H' φ2 H2 → RH K H2 φ2 m2 → ITM.ok ⟨rng lo hi, none⟩ m2 → ∃ x, (rng lo hi)[i]? = some x ∧ RV K H2 φ2 x v) := by
  rw [rng_len]
  exact walk_range.mono (fun _ _ => trivial) fun i H2 v H3 hi _ y => ⟨y.1, fun φ3 m3 x3 a3 o3 => ⟨_, rng_get hi, y.2⟩⟩
theorem i_rng1 {b : Expr} {sb : SE} {p pos : Pos} (hg : Gl X "range") (hm : X.mg "range" = none) (hb : QE X W b sb) (hs : starEach [b] X.env = [(false, eval b X.env)] := by rfl) : QI X W tg (.Call (.Name "range" p) [b] [] pos) (iRng1S sb) :=
  ⟨pi_imp (pi_range1 hg hm (pa_cons hb.pe pa_nil (by rw [hs] <;> rfl)) hs) fun σ H RR ⟨φ, l, m, h1, h2, h3⟩ => ⟨φ, l, m, h1, h2, by
    unfold iRng1S at h3
    cases e1 : sb l m with
    | bad => rw [e1] at h3; exact h3
    | ex c fs m' => rw [e1] at h3; exact h3
    | ok y m1 =>
      rw [e1] at h3
      simp only [R.bind] at h3
      intro φ1 H1 v x1 a1 r1
      cases y with
      | int j =>
        cases r1
        simp only at h3
        by_cases hz : -4611686018427387904 ≤ j ∧ j < 4611686018427387904
        · rw [if_pos hz] at h3
          have e : Itr 0 j.toNat = Itr 0 (j - 0).toNat := by rw [Int.sub_zero]
          refine ⟨j, rfl, by omega, by omega, ?_⟩
          rw [e]
          exact h3 φ1 H1 _ x1 a1 walk_rng
        · rw [if_neg hz] at h3; exact h3.elim
      | _ => exact h3.elim⟩⟩
theorem i_rng2 {a b : Expr} {sa sb : SE} {p pos : Pos} (hg : Gl X "range") (hm : X.mg "range" = none) (ha : QE X W a sa) (hb : QE X W b sb) (hs : starEach [a, b] X.env = [(false, eval a X.env), (false, eval b X.env)] := by rfl) (hs2 : starEach [b] X.env = [(false, eval b X.env)] := by rfl) :
    QI X W tg (.Call (.Name "range" p) [a, b] [] pos) (iRng2S sa sb) :=
  ⟨pi_imp (pi_range2 hg hm (pa_cons ha.pe (pa_cons hb.pe pa_nil (by rw [hs2] <;> rfl)) (by rw [hs, hs2])) hs hs2) fun σ H RR ⟨φ, l, m, h1, h2, h3⟩ => ⟨φ, l, m, h1, h2, by
    unfold iRng2S at h3
    cases e1 : sa l m with
    | bad => rw [e1] at h3; exact h3
    | ex c fs m' => rw [e1] at h3; exact h3
    | ok y m1 =>
      rw [e1] at h3
      simp only [R.bind] at h3
      intro φ1 H1 v x1 a1 r1
      refine ⟨φ1, l, m1, a1, h2.ext x1, ?_⟩
      cases e2 : sb l m1 with
      | bad => rw [e2] at h3; exact h3
      | ex c fs m' =>
        rw [e2] at h3
        exact fun φ2 H2 x2 a2 => h3 φ2 H2 (x1.trans x2) a2
      | ok z m2 =>
        rw [e2] at h3
        simp only [R.bind] at h3
        intro φ2 H2 v2 x2 a2 r2
        cases y with
        | int i =>
          cases z with
          | int j =>
            cases r1
            cases r2
            simp only at h3
            by_cases hz : -4611686018427387904 ≤ i ∧ i < 4611686018427387904 ∧ -4611686018427387904 ≤ j ∧ j < 4611686018427387904
            · rw [if_pos hz] at h3
              exact ⟨i, j, rfl, by omega, h3 φ2 H2 _ (x1.trans x2) a2 walk_rng⟩
            · rw [if_neg hz] at h3; exact h3.elim
          | _ => exact h3.elim
        | _ => exact h3.elim⟩⟩
end
end SM

set_option Elab.async false
set_option linter.all false
set_option maxRecDepth 100000
set_option maxHeartbeats 1000000
namespace SM
open PySem PySem.Spec PyProof.Rows L2
theorem q_strc {X : Cx} {W : XM} {x : Str} {j pos} (cs : List Nat) (h : x.cps.toList = cs := by decide +kernel) : QE X W (.Constant (.str x) j pos) (sC (.str cs)) := by
  subst h
  exact q_str
/-! ## defs -/
def fnS (n N : Nat) (b : SS) : FS := fun xs m => if xs.length = n then match b (xs.map some ++ List.replicate (N - n) none) m with
  | .nx _ m' => .ok .non m'
  | .rt x m' => .ok x m'
  | .ex c fs _ m' => .ex c fs m'
  | _ => .bad
  else .bad
theorem rl_start {K : PySem.W.Frag} {H : Hp} {φ : List Addr} {N : List Str} {n : Nat} (hn : n ≤ N.length) : ∀ {xs : List PV} {vs : List V}, RVs K H φ xs vs → xs.length = n → RL K H φ (xs.map some ++ List.replicate (N.length - n) none) (L2.start N vs) := fun {xs vs} h hl => by
  have hv := h.length
  unfold L2.start
  refine ⟨by simp [hv, hl], fun i x e => ?_⟩
  by_cases hi : i < xs.length
  · rw [List.getElem?_append_left (by simpa using hi)] at e
    rw [List.getElem?_map] at e
    cases hx : xs[i]? with
    | none => rw [hx] at e; cases e
    | some y =>
      rw [hx] at e
      cases e
      obtain ⟨v, e1, e2⟩ := h.get hx
      exact ⟨v, by rw [List.getElem?_append_left (by simpa [hv] using hi), List.getElem?_map, e1]; rfl, e2⟩
  · rw [List.getElem?_append_right (by simpa using hi)] at e
    rw [List.getElem?_replicate] at e
    split at e <;> cases e
section
variable {P : Program} {w : World} {K : PySem.W.Frag} {mg : Str → Option Value} {base : Heap}
theorem okQ {x qual : Str} {st : Stmt} {f : Addr} {fd : FuncData} {N ps : List Str} {k : Nat} (F : Fun K x qual st f fd) (S : FnScope N ps (defScope st)) (b : SS)
    (h : ∀ (cdv : Value) (A : Around) (outer : List Env) (s : Shared) (H : Hp) (E : XK), Room k (A.deeper (envOfC qual (defScope st) s.heap.objs.size f cdv)) →
      QSs (cxOf CX0 P w K mg base N qual (defScope st) f cdv A outer s H E).nox W0 (defBody st) b) : FnOk P w K mg base CX0 (k + 1) f fd ps (SpQ K ps.length (fnS ps.length N.length b)) := by
  refine F.ok S (fun vs H Q E h => h.1) fun cdv A outer s H vs Q E hr hsp => ?_
  obtain ⟨hl, φ, m, xs, h1, h2, h3⟩ := hsp
  have hle : ps.length ≤ N.length := by
    have := congrArg List.length S.pre
    rw [List.length_take] at this
    omega
  have hxl : xs.length = ps.length := by rw [← h2.length]; exact hl
  refine ⟨_, (h cdv A outer s H E hr).ps, φ, _, m, h1, rl_start hle h2 hxl, ?_⟩
  unfold fnS at h3
  rw [if_pos hxl] at h3
  cases hb : b (xs.map some ++ List.replicate (N.length - ps.length) none) m with
  | nx l m' => rw [hb] at h3; exact fun φ' σ' H' x a b => h3 φ' H' _ x a rfl
  | rt y m' => rw [hb] at h3; exact h3
  | bk l m' => rw [hb] at h3; exact h3.elim
  | ct l m' => rw [hb] at h3; exact h3.elim
  | ex c fs l m' => rw [hb] at h3; exact h3.elim
  | bad => rw [hb] at h3; exact h3.elim
theorem cal_mk {x qual : Str} {st : Stmt} {f : Addr} {fd : FuncData} {ps : List Str} {k n : Nat} {g : FS} (hn : ps.length = n) (G : FnOk P w K mg base CX0 k f fd ps (SpQ K n g)) (F : Fun K x qual st f fd) (hm : mg x = some (.ref f)) (hb : Binds K fd ps []) : Cal P w K mg base x n k g :=
  ⟨f, fd, ps, hn, G, hm, F.kp, hb⟩
/-- the law's own promise at a script -/
theorem law_sp {f : FS} {E : XK} {H : Hp} {a : Addr} {ns : List Int} {m' : MH} (h : f [.ref 0] [.frz (ns.map .int)] = .ok (.bl true) m') (ho : Only H) (hS : SqL K H a (ns.map V.int)) : SpQ K 1 f [.ref a] H (fun v _ => v = .bl true) E := by
  have rvs : ∀ ns : List Int, RVs K H [a] (ns.map .int) (ns.map V.int) := fun ns => by
    induction ns with
    | nil => rfl
    | cons n r ih => exact ⟨.int n, _, rfl, rfl, ih⟩
  have hF : SqF K H a (ns.map V.int) := by
    rcases hS with (q | q) | q
    · rcases ho a with z | ⟨o, xs, z⟩
      · rw [z] at q; cases q
      · rw [z] at q; cases q
    · exact .inl q
    · exact .inr q
  refine ⟨rfl, [a], [.frz (ns.map .int)], [.ref 0], ⟨rfl, ?_, ?_⟩, ⟨.ref a, [], rfl, ⟨a, rfl, rfl⟩, rfl⟩, ?_⟩
  · intro i j b o u h1 h2 h3 h4 m1 m2
    cases i with
    | zero => cases h3; cases m1
    | succ i => cases h3
  · intro n b o h1 h2
    cases n with
    | zero => cases h1; cases h2; exact ⟨_, hF, rvs ns⟩
    | succ n => cases h1
  · rw [h]
    intro φ' H' v x1 a1 r1
    exact r1
end
end SM

set_option Elab.async false
set_option linter.all false
set_option maxRecDepth 100000
set_option maxHeartbeats 1000000
namespace SM
open PySem PySem.Spec PyProof.Rows L2
/-! ## what a reckoning comes to -/
abbrev EX := String → List PV → MH → Prop
def NoE : EX := fun _ _ _ => False
/-! what stands behind is held: simp does not go into it (the last place hangs on it, and says nothing of it) -/
@[reducible] def Hold {α : Sort u} (_ : α) : Type := Unit
@[irreducible] def WP {α : Type} (r : R α) (Q : α → MH → Prop) (E : EX) (_ : Hold (fun (_ : Unit) => (Q, E)) := Unit.unit) : Prop := match r with
  | .ok x m => Q x m
  | .ex c fs m => E c fs m
  | .bad => False
structure ED where
  nx : Loc → MH → Prop
  rt : PV → MH → Prop
  bk : Loc → MH → Prop := fun _ _ => False
  ct : Loc → MH → Prop := fun _ _ => False
  ex : String → List PV → Loc → MH → Prop := fun _ _ _ _ => False
@[irreducible] def WS (r : RS) (D : ED) (_ : Hold (fun (_ : Unit) => D) := Unit.unit) : Prop := match r with
  | .nx l m => D.nx l m
  | .rt x m => D.rt x m
  | .bk l m => D.bk l m
  | .ct l m => D.ct l m
  | .ex c fs l m => D.ex c fs l m
  | .bad => False
@[irreducible] def WG (o : Option (Loc × MH)) (Q : Loc → MH → Prop) (_ : Hold (fun (_ : Unit) => Q) := Unit.unit) : Prop := match o with
  | some (l, m) => Q l m
  | none => False
section
variable {α β : Type} {Q Q' : α → MH → Prop} {E : EX} {l : Loc} {m : MH} {D : ED}
theorem WP.mono {r : R α} (h : WP r Q E) (i : ∀ x m, Q x m → Q' x m) : WP r Q' E := by
  unfold WP at h ⊢
  cases r with
  | ok x m => exact i x m h
  | ex c fs m => exact h
  | bad => exact h
theorem WP.run {r : R α} (h : WP r Q NoE) : ∃ x m, r = .ok x m ∧ Q x m := by
  unfold WP at h
  cases r with
  | ok x m => exact ⟨x, m, rfl, h⟩
  | ex c fs m => exact h.elim
  | bad => exact h.elim
theorem WP.of {r : R α} {x : α} {m : MH} (h : r = .ok x m) (q : Q x m) : WP r Q E := by subst h; unfold WP; exact q
theorem WP.noe {r : R α} (h : WP r Q NoE) : WP r Q E := by
  unfold WP at h ⊢
  cases r with
  | ok x m => exact h
  | ex c fs m => exact h.elim
  | bad => exact h
theorem WS.mono {r : RS} {D D' : ED} (h : WS r D) (h1 : ∀ l m, D.nx l m → D'.nx l m) (h2 : ∀ x m, D.rt x m → D'.rt x m) (h3 : ∀ l m, D.bk l m → D'.bk l m) (h4 : ∀ l m, D.ct l m → D'.ct l m) (h5 : ∀ c fs l m, D.ex c fs l m → D'.ex c fs l m) : WS r D' := by
  unfold WS at h ⊢
  cases r with
  | nx l m => exact h1 _ _ h
  | rt x m => exact h2 _ _ h
  | bk l m => exact h3 _ _ h
  | ct l m => exact h4 _ _ h
  | ex c fs l m => exact h5 _ _ _ _ h
  | bad => exact h
theorem wp_eq {r : R α} (h : ∀ x m, Q x m = Q' x m) : WP r Q E = WP r Q' E := by
  have : Q = Q' := funext fun x => funext fun m => h x m
  subst this; with_unfolding_all rfl
theorem wp_ok {x : α} : WP (.ok x m) Q E = Q x m := by with_unfolding_all rfl
theorem wp_bad : WP (.bad : R α) Q E = False := by with_unfolding_all rfl
theorem wp_ex {c : String} {fs : List PV} : WP (.ex c fs m : R α) Q E = E c fs m := by with_unfolding_all rfl
theorem wp_bind {r : R β} {k : β → MH → R α} : WP (r.bind k) Q E = WP r (fun x m => WP (k x m) Q E) E := by cases r <;> with_unfolding_all rfl
theorem wp_some {x : α} : WP (lift (some (x, m))) Q E = Q x m := by with_unfolding_all rfl
theorem wp_none : WP (lift (none : Option (α × MH))) Q E = False := by with_unfolding_all rfl
theorem wp_liftif {c : Prop} [Decidable c] {a b : Option (α × MH)} : WP (lift (if c then a else b)) Q E = if c then WP (lift a) Q E else WP (lift b) Q E := by split <;> with_unfolding_all rfl
theorem wp_if {c : Prop} [Decidable c] {a b : R α} : WP (if c then a else b) Q E = if c then WP a Q E else WP b Q E := by split <;> with_unfolding_all rfl
theorem ws_if {c : Prop} [Decidable c] {a b : RS} : WS (if c then a else b) D = if c then WS a D else WS b D := by split <;> with_unfolding_all rfl
theorem wp_noex {r : R PV} {Q : PV → MH → Prop} : WP (noex r) Q E = WP r Q NoE := by cases r <;> with_unfolding_all rfl
theorem ws_then {r : R β} {k : β → MH → RS} : WS (R.then l r k) D = WP r (fun x m => WS (k x m) D) (fun c fs m => D.ex c fs l m) := by cases r <;> with_unfolding_all rfl
theorem ws_seq {r : RS} {k : Loc → MH → RS} : WS (r.seq k) D = WS r { D with nx := fun l m => WS (k l m) D } := by cases r <;> with_unfolding_all rfl
theorem ws_nx : WS (.nx l m) D = D.nx l m := by with_unfolding_all rfl
theorem ws_rt {x : PV} : WS (.rt x m) D = D.rt x m := by with_unfolding_all rfl
theorem ws_bk : WS (.bk l m) D = D.bk l m := by with_unfolding_all rfl
theorem ws_ct : WS (.ct l m) D = D.ct l m := by with_unfolding_all rfl
theorem ws_bad : WS .bad D = False := by with_unfolding_all rfl
end
section
variable {Q : PV → MH → Prop} {E : EX} {l : Loc} {m : MH} {D : ED} {a b c : SE} {s t : SS} {ta tb : SB} {as : SA}
theorem w_var {i : Nat} {v : PV} (h : l[i]? = some (some v)) : WP (sVar i l m) Q E = Q v m := by unfold sVar; rw [h]; with_unfolding_all rfl
theorem w_v0 {v : PV} {r : Loc} : WP (sVar 0 (some v :: r) m) Q E = Q v m := by with_unfolding_all rfl
theorem w_vS {i : Nat} {o : Option PV} {r : Loc} : WP (sVar (i + 1) (o :: r) m) Q E = WP (sVar i r m) Q E := by
  unfold sVar; rw [List.getElem?_cons_succ]
theorem w_c {v : PV} : WP (sC v l m) Q E = Q v m := by with_unfolding_all rfl
theorem w_op {f : PV → PV → MH → OR} : WP (sOp f a b l m) Q E = WP (a l m) (fun x m1 => WP (b l m1) (fun y m2 => WP (lift (f x y m2)) Q E) E) E := by unfold sOp; rw [wp_bind]; exact wp_eq fun x m1 => wp_bind
theorem w_un {f : PV → MH → OR} : WP (sUn f a l m) Q E = WP (a l m) (fun x m1 => WP (lift (f x m1)) Q E) E := by unfold sUn; rw [wp_bind]
theorem w_anil {Q : List PV → MH → Prop} : WP (aNil l m) Q E = Q [] m := by with_unfolding_all rfl
theorem w_acons {Q : List PV → MH → Prop} : WP (aCons a as l m) Q E = WP (a l m) (fun x m1 => WP (as l m1) (fun xs m2 => Q (x :: xs) m2) E) E := by unfold aCons; rw [wp_bind]; exact wp_eq fun x m1 => by rw [wp_bind]; exact wp_eq fun xs m2 => wp_ok
theorem w_tup : WP (sTup as l m) Q E = WP (as l m) (fun xs m1 => xs.length ≤ 16777216 ∧ Q (.tup xs) m1) E := by
  unfold sTup; rw [wp_bind]; refine wp_eq fun xs m1 => ?_
  by_cases h : xs.length ≤ 16777216
  · rw [if_pos h]; simp [h, wp_ok]
  · rw [if_neg h]; simp [h, wp_bad]
theorem w_lst : WP (sLst as l m) Q E = WP (as l m) (fun xs m1 => xs.length ≤ 16777216 ∧ Q (.ref m1.length) (m1 ++ [.lst xs])) E := by
  unfold sLst; rw [wp_bind]; refine wp_eq fun xs m1 => ?_
  by_cases h : xs.length ≤ 16777216
  · rw [if_pos h]; simp [h, wp_ok]
  · rw [if_neg h]; simp [h, wp_bad]
theorem w_call {f : List PV → MH → OR} : WP (sCall f as l m) Q E = WP (as l m) (fun xs m1 => WP (lift (f xs m1)) Q E) E := by unfold sCall; rw [wp_bind]
theorem w_callU {n : Nat} {f : FS} : WP (sCallU n f as l m) Q E = WP (as l m) (fun xs m1 => xs.length = n ∧ WP (f xs m1) Q NoE) E := by
  unfold sCallU; rw [wp_bind]; refine wp_eq fun xs m1 => ?_
  by_cases h : xs.length = n
  · rw [if_pos h, wp_noex]; simp [h]
  · rw [if_neg h]; simp [h, wp_bad]
theorem w_isi {T : String} : WP (sIsi T a l m) Q E = WP (a l m) (fun x m1 => okTy m1 x = true ∧ Q (.bl (isTab (tyName x) T)) m1) E := by
  unfold sIsi; rw [wp_bind]; refine wp_eq fun x m1 => ?_
  by_cases h : okTy m1 x = true
  · rw [if_pos h]; simp [h, wp_ok]
  · rw [if_neg h]; simp [h, wp_bad]
theorem w_meth {ty : MH → PV → Bool} {f : PV → List PV → MH → OR} : WP (sMeth ty f a as l m) Q E = WP (a l m) (fun x m1 => ty m1 x = true ∧ WP (as l m1) (fun xs m2 => WP (lift (f x xs m2)) Q E) E) E := by
  unfold sMeth; rw [wp_bind]; refine wp_eq fun x m1 => ?_
  by_cases h : ty m1 x = true
  · rw [if_pos h, wp_bind]; simp [h]
  · rw [if_neg h]; simp [h, wp_bad]
theorem wp_asB {x : PV} {Q : Bool → MH → Prop} : WP (asB x m) Q E = match x with | .bl b => Q b m | _ => False := by cases x <;> with_unfolding_all rfl
theorem w_tru {Q : Bool → MH → Prop} : WP (tTru a l m) Q E = WP (a l m) (fun x m1 => match truv m1 x with | some b => Q b m1 | none => False) E := by
  unfold tTru; rw [wp_bind]; refine wp_eq fun x m1 => ?_; cases truv m1 x <;> with_unfolding_all rfl
theorem w_bool {Q : Bool → MH → Prop} : WP (tBool a l m) Q E = WP (a l m) (fun x m1 => WP (asB x m1) Q E) E := by unfold tBool; rw [wp_bind]
theorem w_notS {Q : Bool → MH → Prop} : WP (tNotS ta l m) Q E = WP (ta l m) (fun b m1 => Q (!b) m1) E := by unfold tNotS; rw [wp_bind]; with_unfolding_all rfl
theorem w_andS {Q : Bool → MH → Prop} : WP (tAndS ta tb l m) Q E = WP (ta l m) (fun b m1 => if b = true then WP (tb l m1) Q E else Q false m1) E := by
  unfold tAndS; rw [wp_bind]; refine wp_eq fun b m1 => ?_; rw [wp_if]; with_unfolding_all rfl
theorem w_orS {Q : Bool → MH → Prop} : WP (tOrS ta tb l m) Q E = WP (ta l m) (fun b m1 => if b = true then Q true m1 else WP (tb l m1) Q E) E := by
  unfold tOrS; rw [wp_bind]; refine wp_eq fun b m1 => ?_; rw [wp_if]; with_unfolding_all rfl
theorem w_ifx : WP (sIf ta a b l m) Q E = WP (ta l m) (fun k m1 => if k = true then WP (a l m1) Q E else WP (b l m1) Q E) E := by
  unfold sIf; rw [wp_bind]; refine wp_eq fun b m1 => ?_; rw [wp_if]
theorem w_andV : WP (sAndV a b l m) Q E = WP (a l m) (fun x m1 => WP (asB x m1) (fun k m2 => if k = true then WP (b l m2) Q E else Q (.bl false) m2) E) E := by
  unfold sAndV; rw [wp_bind]; refine wp_eq fun x m1 => ?_; rw [wp_bind]; refine wp_eq fun k m2 => ?_; rw [wp_if]; with_unfolding_all rfl
theorem w_orV : WP (sOrV a b l m) Q E = WP (a l m) (fun x m1 => WP (asB x m1) (fun k m2 => if k = true then Q (.bl true) m2 else WP (b l m2) Q E) E) E := by
  unfold sOrV; rw [wp_bind]; refine wp_eq fun x m1 => ?_; rw [wp_bind]; refine wp_eq fun k m2 => ?_; rw [wp_if]; with_unfolding_all rfl
theorem w_notV : WP (sNotV a l m) Q E = WP (a l m) (fun x m1 => WP (asB x m1) (fun k m2 => Q (.bl (!k)) m2) E) E := by
  unfold sNotV; rw [wp_bind]; refine wp_eq fun x m1 => ?_; rw [wp_bind]; with_unfolding_all rfl
theorem w_chain {f g : PV → PV → MH → OR} : WP (sChain f g a b c l m) Q E = WP (a l m) (fun x m1 => WP (b l m1) (fun y m2 => WP (lift (f x y m2)) (fun z m3 => WP (asB z m3) (fun k m4 => if k = true then WP (c l m4) (fun u m5 => WP (lift (g y u m5)) Q E) E else Q (.bl false) m4) E) E) E) E := by
  unfold sChain; rw [wp_bind]; refine wp_eq fun x m1 => ?_; rw [wp_bind]; refine wp_eq fun y m2 => ?_; rw [wp_bind]; refine wp_eq fun z m3 => ?_; rw [wp_bind]; refine wp_eq fun k m4 => ?_; rw [wp_if]; split
  · exact wp_bind
  · with_unfolding_all rfl
theorem add_ii {a b : Int} : addv (.int a) (.int b) m = some (.int (a + b), m) := by with_unfolding_all rfl
theorem add_ss {a b : List Nat} : addv (.str a) (.str b) m = if a.length + b.length ≤ 16777216 then some (.str (a ++ b), m) else none := by with_unfolding_all rfl
theorem add_tt {a b : List PV} : addv (.tup a) (.tup b) m = if a.length + b.length ≤ 16777216 then some (.tup (a ++ b), m) else none := by with_unfolding_all rfl
theorem add_rr {i j : Nat} {xs ys : List PV} (h : lst? m i = some xs) (h2 : lst? m j = some ys) : addv (.ref i) (.ref j) m = if xs.length + ys.length ≤ 16777216 then some (.ref m.length, m ++ [.lst (xs ++ ys)]) else none := by
  show (match lst? m i, lst? m j with | some xs, some ys => _ | _, _ => none) = _
  rw [h, h2]
theorem sub_ii {a b : Int} : subv (.int a) (.int b) m = some (.int (a - b), m) := by with_unfolding_all rfl
theorem mul_ii {a b : Int} : mulv (.int a) (.int b) m = if (a.natAbs < 18446744073709551616 ∨ b.natAbs < 18446744073709551616) ∨ (a.natAbs < big ∧ b.natAbs < big) then some (.int (a * b), m) else none := by with_unfolding_all rfl
theorem fdiv_ii {a b : Int} : fdivv (.int a) (.int b) m = if b ≠ 0 ∧ b.natAbs < big then some (.int (a.fdiv b), m) else none := by with_unfolding_all rfl
theorem mod_ii {a b : Int} : modv (.int a) (.int b) m = if b ≠ 0 then some (.int (a.fmod b), m) else none := by with_unfolding_all rfl
theorem pow_ii {a b : Int} : powv (.int a) (.int b) m = if 0 ≤ b ∧ b ≤ 1000 ∧ a.natAbs < 18446744073709551616 then some (.int (a ^ b.toNat), m) else none := by with_unfolding_all rfl
theorem neg_i {a : Int} : negv (.int a) m = some (.int (-a), m) := by with_unfolding_all rfl
theorem cmp_ii {f : Int → Int → Bool} {a b : Int} : cmpI f (.int a) (.int b) m = some (.bl (f a b), m) := by with_unfolding_all rfl
theorem is_n {x : PV} : isNv x .non m = some (.bl (isNon x), m) := by unfold isNv; with_unfolding_all rfl
theorem not_n {x : PV} : notNv x .non m = some (.bl (!isNon x), m) := by unfold notNv; with_unfolding_all rfl
theorem non_n : isNon .non = true := by with_unfolding_all rfl
theorem non_i {a : Int} : isNon (.int a) = false := by with_unfolding_all rfl
theorem non_b {a : Bool} : isNon (.bl a) = false := by with_unfolding_all rfl
theorem non_s {a : List Nat} : isNon (.str a) = false := by with_unfolding_all rfl
theorem non_t {a : List PV} : isNon (.tup a) = false := by with_unfolding_all rfl
theorem non_r {a : Nat} : isNon (.ref a) = false := by with_unfolding_all rfl
theorem abs_i {a : Int} : absv [.int a] m = some (.int (if a < 0 then -a else a), m) := by with_unfolding_all rfl
theorem max_ii {a b : Int} : max2v [.int a, .int b] m = some (.int (if b > a then b else a), m) := by with_unfolding_all rfl
theorem min_ii {a b : Int} : min2v [.int a, .int b] m = some (.int (if b < a then b else a), m) := by with_unfolding_all rfl
theorem int_i {a : Int} : intv [.int a] m = some (.int a, m) := by with_unfolding_all rfl
theorem int_b {a : Bool} : intv [.bl a] m = some (.int (if a then 1 else 0), m) := by with_unfolding_all rfl
theorem gcd_ii {a b : Int} : gcdv [.int a, .int b] m = some (.int (Nat.gcd a.natAbs b.natAbs : Nat), m) := by with_unfolding_all rfl
theorem len_t {xs : List PV} : lenv [.tup xs] m = some (.int xs.length, m) := by with_unfolding_all rfl
theorem len_s {s : List Nat} : lenv [.str s] m = if s.length ≤ 16777216 then some (.int s.length, m) else none := by with_unfolding_all rfl
theorem len_r {n : Nat} {xs : List PV} (h : seq? m n = some xs) : lenv [.ref n] m = some (.int xs.length, m) := by
  show (seq? m n).map _ = _; rw [h]; with_unfolding_all rfl
theorem ix_t {xs : List PV} {i : Int} : ixv (.tup xs) (.int i) m = (atI xs i).map fun x => (x, m) := by with_unfolding_all rfl
theorem ix_s {s : List Nat} {i : Int} : ixv (.str s) (.int i) m = if s.length ≤ 16777216 then (atI s i).map fun c => (.str [c], m) else none := by with_unfolding_all rfl
theorem ix_r {n : Nat} {xs : List PV} {i : Int} (h : seq? m n = some xs) : ixv (.ref n) (.int i) m = (atI xs i).map fun x => (x, m) := by
  show (match seq? m n with | some xs => _ | none => _) = _; rw [h]
theorem eq_v {x y : PV} : eqv x y m = (eqV m x y).map fun b => (.bl b, m) := by with_unfolding_all rfl
theorem ne_v {x y : PV} : nev x y m = (eqV m x y).map fun b => (.bl (!b), m) := by with_unfolding_all rfl
theorem eq_ii {a b : Int} : eqV m (.int a) (.int b) = some (decide (a = b)) := by with_unfolding_all rfl
theorem eq_bb {a b : Bool} : eqV m (.bl a) (.bl b) = some (decide (a = b)) := by with_unfolding_all rfl
theorem eq_ss {a b : List Nat} : eqV m (.str a) (.str b) = some (decide (a = b)) := by with_unfolding_all rfl
theorem eq_nn : eqV m .non .non = some true := by with_unfolding_all rfl
theorem eq_in {a : Int} : eqV m (.int a) .non = some false := by with_unfolding_all rfl
theorem eq_ni {a : Int} : eqV m .non (.int a) = some false := by with_unfolding_all rfl
theorem asB_b {b : Bool} {Q : Bool → MH → Prop} : WP (asB (.bl b) m) Q E = Q b m := by with_unfolding_all rfl
/-! statements -/
theorem s_nil : WS (xNil l m) D = D.nx l m := by with_unfolding_all rfl
theorem s_seq : WS (xSeq s t l m) D = WS (s l m) { D with nx := fun l m => WS (t l m) D } := by unfold xSeq; rw [ws_seq]
theorem s_cut {mid : Loc → MH → Prop} (h : WS (s l m) { D with nx := mid }) (h2 : ∀ l m, mid l m → WS (t l m) D) : WS (xSeq s t l m) D := by
  rw [s_seq]
  exact h.mono h2 (fun _ _ h => h) (fun _ _ h => h) (fun _ _ h => h) (fun _ _ _ _ h => h)
theorem s_brk : WS (xBrk l m) D = D.bk l m := by with_unfolding_all rfl
theorem s_cnt : WS (xCnt l m) D = D.ct l m := by with_unfolding_all rfl
theorem s_expr : WS (xExpr a l m) D = WP (a l m) (fun _ m1 => D.nx l m1) (fun c fs m => D.ex c fs l m) := by unfold xExpr; rw [ws_then]; with_unfolding_all rfl
theorem s_ret : WS (xRet a l m) D = WP (a l m) (fun x m1 => D.rt x m1) (fun c fs m => D.ex c fs l m) := by unfold xRet; rw [ws_then]; with_unfolding_all rfl
theorem s_retN : WS (xRetN l m) D = D.rt .non m := by with_unfolding_all rfl
theorem s_if : WS (xIf ta s t l m) D = WP (ta l m) (fun k m1 => if k = true then WS (s l m1) D else WS (t l m1) D) (fun c fs m => D.ex c fs l m) := by unfold xIf; rw [ws_then]; refine wp_eq fun k m1 => ?_; rw [ws_if]
theorem s_asn {i : Nat} : WS (xSet i a l m) D = WP (a l m) (fun x m1 => D.nx (l.set i (some x)) m1) (fun c fs m => D.ex c fs l m) := by unfold xSet; rw [ws_then]; with_unfolding_all rfl
theorem s_par {i j : Nat} : WS (xPar i j a b l m) D = WP (a l m) (fun x m1 => WP (b l m1) (fun y m2 => D.nx ((l.set i (some x)).set j (some y)) m2) (fun c fs m => D.ex c fs l m)) (fun c fs m => D.ex c fs l m) := by unfold xPar; rw [ws_then]; exact wp_eq fun x m1 => by rw [ws_then]; exact wp_eq fun y m2 => ws_nx
theorem s_asg {g : STg} : WS (xAsg a g l m) D = WP (a l m) (fun x m1 => WG (g x l m1) D.nx) (fun c fs m => D.ex c fs l m) := by
  unfold xAsg; rw [ws_then]; refine wp_eq fun x m1 => ?_; cases g x l m1 <;> with_unfolding_all rfl
theorem g_nm {i : Nat} {x : PV} {Q : Loc → MH → Prop} : WG (gNm i x l m) Q = Q (l.set i (some x)) m := by with_unfolding_all rfl
theorem g_nil {Q : Loc → MH → Prop} : WG (gNilS [] l m) Q = Q l m := by with_unfolding_all rfl
theorem g_cons {g : STg} {r : STgs} {x : PV} {xs : List PV} {Q : Loc → MH → Prop} : WG (gConsS g r (x :: xs) l m) Q = WG (g x l m) (fun l m => WG (r xs l m) Q) := by
  unfold gConsS; dsimp only; cases g x l m <;> with_unfolding_all rfl
theorem g_tupT {n : Nat} {g : STgs} {xs : List PV} {Q : Loc → MH → Prop} : WG (gTupS n g (.tup xs) l m) Q = (xs.length = n ∧ WG (g xs l m) Q) := by
  unfold gTupS
  by_cases h : xs.length = n
  · simp only [if_pos h]; simp [h]
  · simp only [if_neg h]; simp [h, WG]
theorem g_tupL {n i : Nat} {g : STgs} {xs : List PV} {Q : Loc → MH → Prop} (e : seq? m i = some xs) : WG (gTupS n g (.ref i) l m) Q = (xs.length = n ∧ WG (g xs l m) Q) := by
  unfold gTupS
  simp only [e]
  by_cases h : xs.length = n
  · simp only [if_pos h]; simp [h]
  · simp only [if_neg h]; simp [h, WG]
theorem g_subW {o i : SE} {x : PV} {Q : Loc → MH → Prop} : WG (gSubS o i x l m) Q = WP (o l m) (fun ov m1 => WP (i l m1) (fun iv m2 => match setv ov iv x m2 with | some m3 => Q l m3 | none => False) NoE) NoE := by
  unfold gSubS
  cases o l m with
  | ok ov m1 =>
    simp only [wp_ok]
    cases i l m1 with
    | ok iv m2 => simp only [wp_ok]; cases setv ov iv x m2 <;> with_unfolding_all rfl
    | ex _ _ _ => with_unfolding_all rfl
    | bad => with_unfolding_all rfl
  | ex _ _ _ => with_unfolding_all rfl
  | bad => with_unfolding_all rfl
theorem wp_fn {n N : Nat} {b : SS} {xs : List PV} : WP (fnS n N b xs m) Q E = (xs.length = n ∧ WS (b (xs.map some ++ List.replicate (N - n) none) m) ⟨fun _ m => Q .non m, Q, fun _ _ => False, fun _ _ => False, fun c fs _ m => E c fs m⟩) := by
  unfold fnS
  by_cases h : xs.length = n
  · rw [if_pos h]
    cases b (xs.map some ++ List.replicate (N - n) none) m <;> simp [h, WP, WS]
  · rw [if_neg h]; simp [h, wp_bad]
/-! loops -/
theorem ws_forL {it : ITM} {g : STg} {body : SS} {D : ED} (I : Nat → Loc → MH → Prop)
    (hs : ∀ i x l m, it.items[i]? = some x → I i l m → it.ok m ∧ WG (g x l m) (fun l1 m1 => WS (body l1 m1) ⟨I (i + 1), D.rt, D.nx, I (i + 1), D.ex⟩))
    (hd : ∀ l m, I it.items.length l m → it.ok m ∧ D.nx l m) : ∀ (k i : Nat) (l : Loc) (m : MH), k + i = it.items.length → I i l m → WS (forL it g body (it.items.drop i) l m) D
  | 0, i, l, m, e, h => by
    have e' : i = it.items.length := by omega
    subst e'
    rw [List.drop_of_length_le (Nat.le_refl _)]
    obtain ⟨h1, h2⟩ := hd l m h
    unfold forL
    rw [if_pos h1, ws_nx]
    exact h2
  | k + 1, i, l, m, e, h => by
    have hi : i < it.items.length := by omega
    rw [List.drop_eq_getElem_cons hi]
    obtain ⟨h1, h2⟩ := hs i _ l m (List.getElem?_eq_getElem hi) h
    unfold forL
    rw [if_pos h1]
    cases hg : g it.items[i] l m with
    | none => rw [hg] at h2; unfold WG at h2; exact h2.elim
    | some p =>
      obtain ⟨l1, m1⟩ := p
      rw [hg] at h2
      have h3 : WS (body l1 m1) ⟨I (i + 1), D.rt, D.nx, I (i + 1), D.ex⟩ := by unfold WG at h2; exact h2
      dsimp only
      cases hb : body l1 m1 with
      | nx l2 m2 => rw [hb, ws_nx] at h3; exact ws_forL I hs hd k (i + 1) l2 m2 (by omega) h3
      | ct l2 m2 => rw [hb, ws_ct] at h3; exact ws_forL I hs hd k (i + 1) l2 m2 (by omega) h3
      | bk l2 m2 => rw [hb, ws_bk] at h3; dsimp only; rw [ws_nx]; exact h3
      | rt x m2 => rw [hb, ws_rt] at h3; dsimp only; rw [ws_rt]; exact h3
      | ex c fs l2 m2 => rw [hb] at h3; dsimp only; unfold WS at h3 ⊢; exact h3
      | bad => rw [hb, ws_bad] at h3; exact h3.elim
/-- a for: its items, an invariant by the turn -/
theorem s_for {si : SI} {g : STg} {body : SS} {it : ITM} {m1 : MH} (hsi : si l m = .ok it m1) (I : Nat → Loc → MH → Prop) (h0 : I 0 l m1)
    (hs : ∀ i x l m, it.items[i]? = some x → I i l m → it.ok m ∧ WG (g x l m) (fun l1 m1 => WS (body l1 m1) ⟨I (i + 1), D.rt, D.nx, I (i + 1), D.ex⟩))
    (hd : ∀ l m, I it.items.length l m → it.ok m ∧ D.nx l m) : WS (xFor si g body l m) D := by
  unfold xFor
  rw [hsi]
  have := ws_forL (D := D) I hs hd it.items.length 0 l m1 (by omega) h0
  rw [List.drop_zero] at this
  exact this
theorem si_rng1 {b : SE} {j : Int} {m1 : MH} (h : b l m = .ok (.int j) m1) (hj : -4611686018427387904 ≤ j ∧ j < 4611686018427387904) : iRng1S b l m = .ok ⟨rng 0 j, none⟩ m1 := by
  unfold iRng1S; rw [h]; show (if _ then _ else _) = _; rw [if_pos hj]
theorem si_rng2 {a b : SE} {i j : Int} {m1 m2 : MH} (h : a l m = .ok (.int i) m1) (h2 : b l m1 = .ok (.int j) m2) (hj : -4611686018427387904 ≤ i ∧ i < 4611686018427387904 ∧ -4611686018427387904 ≤ j ∧ j < 4611686018427387904) : iRng2S a b l m = .ok ⟨rng i j, none⟩ m2 := by
  unfold iRng2S; rw [h]; show R.bind (b l m1) _ = _; rw [h2]; show (if _ then _ else _) = _; rw [if_pos hj]
theorem rng_at {lo hi : Int} {i : Nat} {x : PV} (h : (rng lo hi)[i]? = some x) : x = .int (lo + (i : Nat)) ∧ lo + (i : Nat) < hi := by
  by_cases hi' : i < (hi - lo).toNat
  · rw [rng_get hi'] at h; cases h; exact ⟨rfl, by omega⟩
  · rw [List.getElem?_eq_none (by rw [rng_len]; omega)] at h; cases h
/-- for x in range(b) -/
theorem s_for1 {b : SE} {g : STg} {body : SS} {j : Int} {m1 : MH} (n : Nat) (hn : n = j.toNat) (h : b l m = .ok (.int j) m1) (hj : j < 4611686018427387904) (hj0 : -4611686018427387904 ≤ j) (I : Nat → Loc → MH → Prop) (h0 : I 0 l m1)
    (hs : ∀ i l m, i < n → I i l m → WG (g (.int (i : Nat)) l m) (fun l1 m1 => WS (body l1 m1) ⟨I (i + 1), D.rt, D.nx, I (i + 1), D.ex⟩))
    (hd : ∀ l m, I n l m → D.nx l m) : WS (xFor (iRng1S b) g body l m) D := by
  have e : (rng 0 j).length = n := by rw [rng_len, hn, Int.sub_zero]
  refine s_for (it := ⟨rng 0 j, none⟩) (si_rng1 h ⟨hj0, hj⟩) I h0 (fun i x l m hx hi => ⟨trivial, ?_⟩) (fun l m hi => ⟨trivial, hd l m ?_⟩)
  · have hx' : (rng 0 j)[i]? = some x := hx
    obtain ⟨rfl, h2⟩ := rng_at hx'
    have := hs i l m (by omega) hi
    rw [Int.zero_add]
    exact this
  · have hi' : I (rng 0 j).length l m := hi
    rw [e] at hi'
    exact hi'
/-- for x in range(a, b) -/
theorem s_for2 {a b : SE} {g : STg} {body : SS} {i j : Int} {m1 m2 : MH} (n : Nat) (hn : n = (j - i).toNat) (h : a l m = .ok (.int i) m1) (h2 : b l m1 = .ok (.int j) m2) (hj : -4611686018427387904 ≤ i ∧ i < 4611686018427387904 ∧ -4611686018427387904 ≤ j ∧ j < 4611686018427387904) (I : Nat → Loc → MH → Prop) (h0 : I 0 l m2)
    (hs : ∀ k l m, k < n → I k l m → WG (g (.int (i + (k : Nat))) l m) (fun l1 m1 => WS (body l1 m1) ⟨I (k + 1), D.rt, D.nx, I (k + 1), D.ex⟩))
    (hd : ∀ l m, I n l m → D.nx l m) : WS (xFor (iRng2S a b) g body l m) D := by
  have e : (rng i j).length = n := by rw [rng_len, hn]
  refine s_for (it := ⟨rng i j, none⟩) (si_rng2 h h2 hj) I h0 (fun k x l m hx hi => ⟨trivial, ?_⟩) (fun l m hi => ⟨trivial, hd l m ?_⟩)
  · have hx' : (rng i j)[k]? = some x := hx
    obtain ⟨rfl, h2⟩ := rng_at hx'
    exact hs k l m (by omega) hi
  · have hi' : I (rng i j).length l m := hi
    rw [e] at hi'
    exact hi'
/-- for x in a tuple -/
theorem s_forT {e : SE} {g : STg} {body : SS} {xs : List PV} {m1 : MH} (h : e l m = .ok (.tup xs) m1) (I : Nat → Loc → MH → Prop) (h0 : I 0 l m1)
    (hs : ∀ i x l m, xs[i]? = some x → I i l m → WG (g x l m) (fun l1 m1 => WS (body l1 m1) ⟨I (i + 1), D.rt, D.nx, I (i + 1), D.ex⟩))
    (hd : ∀ l m, I xs.length l m → D.nx l m) : WS (xFor (iSeq e) g body l m) D :=
  s_for (it := ⟨xs, none⟩) (by unfold iSeq; rw [h]; with_unfolding_all rfl) I h0 (fun i x l m hx hi => ⟨trivial, hs i x l m hx hi⟩) (fun l m hi => ⟨trivial, hd l m hi⟩)
/-- for x in a list that stays as it is -/
theorem s_forL {e : SE} {g : STg} {body : SS} {xs : List PV} {n : Nat} {m1 : MH} (h : e l m = .ok (.ref n) m1) (hq : seq? m1 n = some xs) (I : Nat → Loc → MH → Prop) (h0 : I 0 l m1) (hk : ∀ i l m, I i l m → seq? m n = some xs)
    (hs : ∀ i x l m, xs[i]? = some x → I i l m → WG (g x l m) (fun l1 m1 => WS (body l1 m1) ⟨I (i + 1), D.rt, D.nx, I (i + 1), D.ex⟩))
    (hd : ∀ l m, I xs.length l m → D.nx l m) : WS (xFor (iSeq e) g body l m) D :=
  s_for (it := ⟨xs, some n⟩) (by unfold iSeq; rw [h]; show (match seq? m1 n with | some xs => _ | none => _) = _; rw [hq]) I h0 (fun i x l m hx hi => ⟨hk i l m hi, hs i x l m hx hi⟩) (fun l m hi => ⟨hk _ l m hi, hd l m hi⟩)
end
theorem iv_n_list  : isTab (tyName .non) "list" = false := by rw [show isTab (tyName .non) "list" = isTab "NoneType" "list" from rfl]; decide
theorem iv_n_tuple  : isTab (tyName .non) "tuple" = false := by rw [show isTab (tyName .non) "tuple" = isTab "NoneType" "tuple" from rfl]; decide
theorem iv_n_bool  : isTab (tyName .non) "bool" = false := by rw [show isTab (tyName .non) "bool" = isTab "NoneType" "bool" from rfl]; decide
theorem iv_n_str  : isTab (tyName .non) "str" = false := by rw [show isTab (tyName .non) "str" = isTab "NoneType" "str" from rfl]; decide
theorem iv_n_int  : isTab (tyName .non) "int" = false := by rw [show isTab (tyName .non) "int" = isTab "NoneType" "int" from rfl]; decide
theorem okt_n  {m : MH} : okTy m .non = true := by with_unfolding_all rfl
theorem iv_b_list {a : Bool} : isTab (tyName (.bl a)) "list" = false := by rw [show isTab (tyName (.bl a)) "list" = isTab "bool" "list" from rfl]; decide
theorem iv_b_tuple {a : Bool} : isTab (tyName (.bl a)) "tuple" = false := by rw [show isTab (tyName (.bl a)) "tuple" = isTab "bool" "tuple" from rfl]; decide
theorem iv_b_bool {a : Bool} : isTab (tyName (.bl a)) "bool" = true := by rw [show isTab (tyName (.bl a)) "bool" = isTab "bool" "bool" from rfl]; decide
theorem iv_b_str {a : Bool} : isTab (tyName (.bl a)) "str" = false := by rw [show isTab (tyName (.bl a)) "str" = isTab "bool" "str" from rfl]; decide
theorem iv_b_int {a : Bool} : isTab (tyName (.bl a)) "int" = true := by rw [show isTab (tyName (.bl a)) "int" = isTab "bool" "int" from rfl]; decide
theorem okt_b {a : Bool} {m : MH} : okTy m (.bl a) = true := by with_unfolding_all rfl
theorem iv_i_list {a : Int} : isTab (tyName (.int a)) "list" = false := by rw [show isTab (tyName (.int a)) "list" = isTab "int" "list" from rfl]; decide
theorem iv_i_tuple {a : Int} : isTab (tyName (.int a)) "tuple" = false := by rw [show isTab (tyName (.int a)) "tuple" = isTab "int" "tuple" from rfl]; decide
theorem iv_i_bool {a : Int} : isTab (tyName (.int a)) "bool" = false := by rw [show isTab (tyName (.int a)) "bool" = isTab "int" "bool" from rfl]; decide
theorem iv_i_str {a : Int} : isTab (tyName (.int a)) "str" = false := by rw [show isTab (tyName (.int a)) "str" = isTab "int" "str" from rfl]; decide
theorem iv_i_int {a : Int} : isTab (tyName (.int a)) "int" = true := by rw [show isTab (tyName (.int a)) "int" = isTab "int" "int" from rfl]; decide
theorem okt_i {a : Int} {m : MH} : okTy m (.int a) = true := by with_unfolding_all rfl
theorem iv_s_list {a : List Nat} : isTab (tyName (.str a)) "list" = false := by rw [show isTab (tyName (.str a)) "list" = isTab "str" "list" from rfl]; decide
theorem iv_s_tuple {a : List Nat} : isTab (tyName (.str a)) "tuple" = false := by rw [show isTab (tyName (.str a)) "tuple" = isTab "str" "tuple" from rfl]; decide
theorem iv_s_bool {a : List Nat} : isTab (tyName (.str a)) "bool" = false := by rw [show isTab (tyName (.str a)) "bool" = isTab "str" "bool" from rfl]; decide
theorem iv_s_str {a : List Nat} : isTab (tyName (.str a)) "str" = true := by rw [show isTab (tyName (.str a)) "str" = isTab "str" "str" from rfl]; decide
theorem iv_s_int {a : List Nat} : isTab (tyName (.str a)) "int" = false := by rw [show isTab (tyName (.str a)) "int" = isTab "str" "int" from rfl]; decide
theorem okt_s {a : List Nat} {m : MH} : okTy m (.str a) = true := by with_unfolding_all rfl
theorem iv_t_list {a : List PV} : isTab (tyName (.tup a)) "list" = false := by rw [show isTab (tyName (.tup a)) "list" = isTab "tuple" "list" from rfl]; decide
theorem iv_t_tuple {a : List PV} : isTab (tyName (.tup a)) "tuple" = true := by rw [show isTab (tyName (.tup a)) "tuple" = isTab "tuple" "tuple" from rfl]; decide
theorem iv_t_bool {a : List PV} : isTab (tyName (.tup a)) "bool" = false := by rw [show isTab (tyName (.tup a)) "bool" = isTab "tuple" "bool" from rfl]; decide
theorem iv_t_str {a : List PV} : isTab (tyName (.tup a)) "str" = false := by rw [show isTab (tyName (.tup a)) "str" = isTab "tuple" "str" from rfl]; decide
theorem iv_t_int {a : List PV} : isTab (tyName (.tup a)) "int" = false := by rw [show isTab (tyName (.tup a)) "int" = isTab "tuple" "int" from rfl]; decide
theorem okt_t {a : List PV} {m : MH} : okTy m (.tup a) = true := by with_unfolding_all rfl
theorem iv_r_list {a : Nat} : isTab (tyName (.ref a)) "list" = true := by rw [show isTab (tyName (.ref a)) "list" = isTab "list" "list" from rfl]; decide
theorem iv_r_tuple {a : Nat} : isTab (tyName (.ref a)) "tuple" = false := by rw [show isTab (tyName (.ref a)) "tuple" = isTab "list" "tuple" from rfl]; decide
theorem iv_r_bool {a : Nat} : isTab (tyName (.ref a)) "bool" = false := by rw [show isTab (tyName (.ref a)) "bool" = isTab "list" "bool" from rfl]; decide
theorem iv_r_str {a : Nat} : isTab (tyName (.ref a)) "str" = false := by rw [show isTab (tyName (.ref a)) "str" = isTab "list" "str" from rfl]; decide
theorem iv_r_int {a : Nat} : isTab (tyName (.ref a)) "int" = false := by rw [show isTab (tyName (.ref a)) "int" = isTab "list" "int" from rfl]; decide
theorem okt_r {m : MH} {n : Nat} {xs : List PV} (h : seq? m n = some xs) : okTy m (.ref n) = true := by show (seq? m n).isSome = true; rw [h]; with_unfolding_all rfl
theorem tru_b {m : MH} {b : Bool} : truv m (.bl b) = some b := by with_unfolding_all rfl
theorem tru_i {m : MH} {i : Int} : truv m (.int i) = some (i != 0) := by with_unfolding_all rfl
theorem tru_n {m : MH} : truv m .non = some false := by with_unfolding_all rfl
theorem tru_t {m : MH} {xs : List PV} : truv m (.tup xs) = some (!xs.isEmpty) := by with_unfolding_all rfl
theorem tru_r {m : MH} {n : Nat} {xs : List PV} (h : seq? m n = some xs) : truv m (.ref n) = some (!xs.isEmpty) := by show (seq? m n).map _ = _; rw [h]; with_unfolding_all rfl
end SM

set_option Elab.async false
set_option linter.all false
set_option maxRecDepth 100000
set_option maxHeartbeats 1000000
namespace SM
open PySem PySem.Spec PyProof.Rows L2
/-! ## slices -/
def cut {α : Type} (xs : List α) (lo hi : Option Int) : List α := (xs.drop (HT.sIx xs.length 0 lo)).take (HT.sIx xs.length xs.length hi - HT.sIx xs.length 0 lo)
abbrev SO := SM.Loc → MH → R (Option Int)
def rO : Rel (Option Int) (Option Int) := fun _ _ b c => c = b
instance {K} : Stays K rO := ⟨fun _ h => h⟩
def oNone : SO := fun _ m => .ok none m
def oSome (s : SE) : SO := fun l m => (s l m).bind fun x m1 => match x with
  | .int i => .ok (some i) m1
  | _ => .bad
def slv : PV → Option Int → Option Int → MH → OR
  | .str s, lo, hi, m => if s.length ≤ 16777216 then some (.str (cut s lo hi), m) else none
  | .tup xs, lo, hi, m => some (.tup (cut xs lo hi), m)
  | .ref n, lo, hi, m => (seq? m n).map fun xs => (.ref m.length, m ++ [.lst (cut xs lo hi)])
  | _, _, _, _ => none
def sSl (a : SE) (lo hi : SO) : SE := fun l m => (a l m).bind fun x m1 => (lo l m1).bind fun i m2 => (hi l m2).bind fun j m3 => lift (slv x i j m3)
section
variable {X : Cx} {W : XM} {e o : Expr} {se : SE} {lo hi : Option Expr} {slo shi : SO} {pos p2 : Pos}
/-- a slice's bound -/
structure QP (X : Cx) (W : XM) (e : Option Expr) (s : SO) : Prop where
  po : PO X e (Rdg X.K rO W s)
theorem po_imp {e : Option Expr} {t t' : TO} (h : PO X e t) (i : ∀ σ H Q, t' σ H Q → t σ H Q) : PO X e t' := ⟨fun pins s σ H Q I q => h.run pins s σ H Q I (i σ H Q q)⟩
theorem p_none : QP X W none oNone := ⟨po_imp po_none fun σ H Q ⟨φ, l, m, h1, h2, h3⟩ => h3 φ H none Ext.refl h1 rfl⟩
theorem p_some (h : QE X W e se) : QP X W (some e) (oSome se) := ⟨po_imp (po_some h.pe) fun σ H Q q => (one q).mono fun v H1 ⟨φ, m, x, l, c1, c2, c3⟩ => by
  cases x with
  | int i => cases c2; exact ⟨i, rfl, c3 φ H1 _ Ext.refl c1 rfl⟩
  | _ => exact c3.elim⟩
theorem cut_rvs {K : PySem.W.Frag} {H : Hp} {φ : List Addr} {xs : List PV} {vs : List V} (h : RVs K H φ xs vs) (lo hi : Option Int) : RVs K H φ (cut xs lo hi) (cutV vs lo hi) := by
  unfold cut cutV
  rw [h.length]
  exact (h.drop _).take _
theorem cut_whole {α : Type} {xs : List α} {lo hi : Option Int} (h : HT.sIx xs.length 0 lo = 0 ∧ HT.sIx xs.length xs.length hi = xs.length) : cut xs lo hi = xs := by
  unfold cut; rw [h.1, h.2]; simp
theorem cut_str (s : List Nat) (lo hi : Option Int) : cutS ⟨s.toArray⟩ lo hi = ⟨(cut s lo hi).toArray⟩ := by
  unfold cutS cut
  rw [str_len]
theorem s_slice : SlR X (fun v lo hi H Q => ∃ φ m x, RH X.K H φ m ∧ RV X.K H φ x v ∧ PostO X.K φ H (slv x lo hi m) Q) := by
  intro pins s σ H v u vl vu lo hi sl Q I rv hs pl pu ⟨φ, m, x, h1, h2, h3⟩
  cases x with
  | str z =>
    cases h2
    have h4 : PostO X.K φ H (if z.length ≤ 16777216 then some (.str (cut z lo hi), m) else none) Q := h3
    split at h4
    · rename_i hz
      exact sl_str pins s σ H _ u vl vu lo hi sl Q I rv hs pl pu ⟨_, rfl, by rw [str_len, sl_eq]; exact hz, by rw [cut_str]; exact h4.same h1 rfl⟩
    · exact h4.not.elim
  | tup xs =>
    obtain ⟨a, vs, rfl, r1, r2⟩ := h2
    have h4 : PostO X.K φ H (some (.tup (cut xs lo hi), m)) Q := h3
    refine sl_tupA pins s σ H _ u vl vu lo hi sl Q I rv hs pl pu ⟨a, vs, rfl, r1, fun hw => ?_, fun _ => h4.newT h1 (cut_rvs r2 lo hi)⟩
    rw [r2.length] at hw
    rw [cut_whole hw] at h4
    exact h4.same h1 ⟨a, vs, rfl, r1, r2⟩
  | ref n =>
    have h4 : PostO X.K φ H ((seq? m n).map fun xs => (.ref m.length, m ++ [.lst (cut xs lo hi)])) Q := h3
    cases hq : seq? m n with
    | none => rw [hq] at h4; exact h4.not.elim
    | some xs =>
      rw [hq] at h4
      obtain ⟨a, vs, rfl, r1, r2⟩ := h1.seq h2 hq
      exact sl_list pins s σ H _ u vl vu _ _ sl Q I rv hs pl pu ⟨a, vs, rfl, r1, h4.newL h1 (cut_rvs r2 lo hi)⟩
  | _ => exact h3.not.elim
theorem q_slice (he : QE X W e se) (hl : QP X W lo slo) (hu : QP X W hi shi) : QE X W (.Subscript e (.Slice lo hi none p2) pos) (sSl se slo shi) :=
  ⟨pe_imp (pe_slice s_slice he.pe hl.po hu.po) fun σ H Q ⟨φ, l, m, h1, h2, h3⟩ => ⟨φ, l, m, h1, h2, (Post.bind (rel := rV X.K) h2 h3).mono fun v H1 ⟨φ1, x, m1, e1, a1, b1, c1, d1⟩ =>
    ⟨φ1, l, m1, a1, b1, (Post.bind (rel := rO) b1 d1).mono fun i H2 ⟨φ2, i', m2, e2, a2, b2, c2, d2⟩ => ⟨φ2, l, m2, a2, b2, (Post.bind (rel := rO) b2 d2).mono fun j H3 ⟨φ3, j', m3, e3, a3, b3, c3, d3⟩ => by
      cases c2; cases c3
      exact ⟨φ3, m3, x, a3, RV.ext e3 (RV.ext e2 c1), .of d3⟩⟩⟩⟩⟩
end

/-! ## texts: order, in, repeated -/
def cmpIS (f : Int → Int → Bool) (g : List Nat → List Nat → Bool) : PV → PV → MH → OR
  | .int a, .int b, m => some (.bl (f a b), m)
  | .str a, .str b, m => some (.bl (g a b), m)
  | _, _, _ => none
def ltv := cmpIS (fun a b => decide (a < b)) (fun a b => decide (a < b))
def lev := cmpIS (fun a b => decide (a ≤ b)) (fun a b => !decide (b < a))
def gtv := cmpIS (fun a b => decide (b < a)) (fun a b => decide (b < a))
def gev := cmpIS (fun a b => decide (b ≤ a)) (fun a b => !decide (a < b))
section
variable {X : Cx}
theorem o_cmpIS {op : CmpOp} {f : Int → Int → Bool} {g : List Nat → List Nat → Bool} (h1 : OpQ X (compareOp op) (cmpI f))
    (h2 : OpR X (compareOp op) (fun x y H Q => ∃ i j : Str, x = .str i ∧ y = .str j ∧ Q (.bl (g i.cps.toList j.cps.toList)) H)) : OpQ X (compareOp op) (cmpIS f g) := .of_eq fun v w H Q φ m x y a1 a2 a3 a4 => by
  unfold cmpIS at a4
  split at a4
  · exact ⟨_, h1, φ, m, _, _, a1, a2, a3, a4⟩
  · cases a2; cases a3
    exact ⟨_, h2, _, _, rfl, rfl, a4.same a1 rfl⟩
  · exact a4.not.elim
theorem o_lt : OpQ X (compareOp .Lt) ltv := o_cmpIS o_ltI op_lt_str
theorem o_le : OpQ X (compareOp .LtE) lev := o_cmpIS o_leI op_le_str
theorem o_gt : OpQ X (compareOp .Gt) gtv := o_cmpIS o_gtI op_gt_str
theorem o_ge : OpQ X (compareOp .GtE) gev := o_cmpIS o_geI op_ge_str
end
/-- in: a sign in a text, a thing in a tuple or list of flat things, data in a list -/
def inS : PV → PV → MH → OR
  | .str [c], .str s, m => some (.bl (decide (c ∈ s)), m)
  | x, y, m => inv x y m
def ninS : PV → PV → MH → OR
  | .str [c], .str s, m => some (.bl (!decide (c ∈ s)), m)
  | x, y, m => ninv x y m
section
variable {X : Cx} {k : Nat}
theorem o_inS (hr : Room k X.A) : OpQ X (compareOp .In) inS := .of_eq fun v w H Q φ m x y a1 a2 a3 a4 => by
  unfold inS at a4
  split at a4
  · cases a2; cases a3
    exact ⟨_, op_in_sign, _, _, rfl, rfl, a4.same a1 rfl⟩
  · exact ⟨_, o_in hr, φ, m, _, _, a1, a2, a3, a4⟩
theorem o_ninS (hr : Room k X.A) : OpQ X (compareOp .NotIn) ninS := .of_eq fun v w H Q φ m x y a1 a2 a3 a4 => by
  unfold ninS at a4
  split at a4
  · cases a2; cases a3
    exact ⟨_, op_notIn_sign, _, _, rfl, rfl, a4.same a1 rfl⟩
  · exact ⟨_, o_nin hr, φ, m, _, _, a1, a2, a3, a4⟩
theorem fold_rep (c : List Nat) : ∀ (k : Nat) (acc : Array Nat), (List.replicate k c.toArray).foldl (· ++ ·) acc = acc ++ ((List.replicate k c).flatten).toArray
  | 0, acc => by simp
  | k + 1, acc => by
    rw [List.replicate_succ, List.foldl_cons, fold_rep c k, List.replicate_succ, List.flatten_cons]
    apply Array.ext'
    simp
/-- a text some times -/
theorem op_mul_str : OpR X (binaryOp .Mult) (fun x y H Q => ∃ (c : List Nat) (n : Int), x = .str ⟨c.toArray⟩ ∧ y = .int n ∧ 0 ≤ n ∧ n ≤ 1000 ∧ c.length ≤ 1000 ∧ Q (.str ⟨((List.replicate n.toNat c).flatten).toArray⟩) H) := by
  intro pins s σ H x y v u Q I rx ry h
  obtain ⟨c, n, rfl, rfl, h0, h1, h2, q⟩ := h
  obtain ⟨t, rfl⟩ := rx
  obtain ⟨t', rfl⟩ := ry
  have hlen : (⟨c.toArray⟩ : Str).length = c.length := str_len c
  have hsz := sl_eq
  have hdiv : ¬ n < 1 → (1000 : Int) ≤ (2 ^ 63 - 1) / n := fun h => by
    rw [Int.le_ediv_iff_mul_le (by omega)]
    omega
  have hprod : c.length * n.toNat ≤ 1000 * 1000 := Nat.mul_le_mul h2 (by omega)
  refine PySem.P.mul_str (by rw [decide_eq_false (by omega), decide_eq_false (by omega)]; rfl) (fun hn _ => ?_) (fun hn _ => ?_) ?_
  · rw [hlen]
    have := hdiv hn
    omega
  · unfold Builtin.Str.tooLong
    rw [hlen]
    exact decide_eq_false (by omega)
  · by_cases hn : n < 1
    · rw [if_pos hn]
      have e : n.toNat = 0 := by omega
      rw [e] at q
      exact ⟨by decide, .str ⟨#[]⟩, H, I.tok _, ⟨_, rfl⟩, q⟩
    · rw [if_neg hn]
      by_cases h1' : (n == 1 || (⟨c.toArray⟩ : Str).length == 0) = true
      · rw [if_pos h1']
        have e : (List.replicate n.toNat c).flatten = c := by
          rw [hlen] at h1'
          rcases (by simpa using h1' : n = 1 ∨ c = []) with rfl | rfl
          · simp
          · simp
        rw [e] at q
        exact ⟨.str ⟨c.toArray⟩, H, I, ⟨_, rfl⟩, q⟩
      · rw [if_neg h1', fold_rep]
        have e : (#[] : Array Nat) ++ ((List.replicate n.toNat c).flatten).toArray = ((List.replicate n.toNat c).flatten).toArray := by simp
        rw [e]
        refine ⟨?_, .str ⟨((List.replicate n.toNat c).flatten).toArray⟩, H, I.tok _, ⟨_, rfl⟩, q⟩
        rw [str_len, List.length_flatten]
        simp
        rw [Nat.mul_comm]
        omega
def mulvS : PV → PV → MH → OR
  | .str c, .int n, m => if 0 ≤ n ∧ n ≤ 1000 ∧ c.length ≤ 1000 then some (.str (List.replicate n.toNat c).flatten, m) else none
  | .ref i, .int n, m => match lst? m i with
    | some xs => if 0 ≤ n ∧ n ≤ 1000 ∧ xs.length ≤ 1000 then some (.ref m.length, m ++ [.lst (List.replicate n.toNat xs).flatten]) else none
    | none => none
  | x, y, m => mulv x y m
theorem RVs.rep {K : PySem.W.Frag} {H : Hp} {φ : List Addr} {xs : List PV} {vs : List V} (h : RVs K H φ xs vs) : ∀ n : Nat, RVs K H φ (List.replicate n xs).flatten (List.replicate n vs).flatten
  | 0 => rfl
  | n + 1 => by
    rw [List.replicate_succ, List.replicate_succ, List.flatten_cons, List.flatten_cons]
    exact h.append (RVs.rep h n)
theorem o_mulS : OpQ X (binaryOp .Mult) mulvS := .of_eq fun v w H Q φ m x y a1 a2 a3 a4 => by
  unfold mulvS at a4
  split at a4
  · cases a2; cases a3
    split at a4
    · rename_i hz
      exact ⟨_, op_mul_str, _, _, rfl, rfl, hz.1, hz.2.1, hz.2.2, a4.same a1 rfl⟩
    · exact a4.not.elim
  · cases a3
    split at a4
    · rename_i xs hs
      obtain ⟨p, vs, _, rfl, q1, q2⟩ := a1.lst a2 hs
      split at a4
      · rename_i hz
        refine ⟨_, op_rep, p, _, vs, rfl, rfl, q1, by omega, by omega, ?_, a4.newL a1 (q2.rep _)⟩
        rw [q2.length, sl_eq]
        exact Nat.le_trans (Nat.mul_le_mul hz.2.2 (Int.toNat_le.mpr hz.2.1)) (by decide)
      · exact a4.not.elim
    · exact a4.not.elim
  · exact ⟨_, o_mul, φ, m, _, _, a1, a2, a3, a4⟩
end

/-! ## name op= e; a module's constant -/
def xAug (i : Nat) (op : PV → PV → MH → OR) (e : SE) : SS := fun l m => R.then l (sVar i l m) fun x m1 => R.then l (e l m1) fun y m2 => R.then l (lift (op x y m2)) fun z m3 => .nx (l.set i (some z)) m3
def iaddv : PV → PV → MH → OR
  | .int a, .int b, m => some (.int (a + b), m)
  | .str a, .str b, m => if a.length + b.length ≤ 16777216 then some (.str (a ++ b), m) else none
  | _, _, _ => none
def isubv : PV → PV → MH → OR
  | .int a, .int b, m => some (.int (a - b), m)
  | _, _, _ => none
def PIpQ (X : Cx) (op : Operator) (f : PV → PV → MH → OR) : Prop := PIp X op (fun v w H Q => ∃ φ m x y, RH X.K H φ m ∧ RV X.K H φ x v ∧ RV X.K H φ y w ∧ PostO X.K φ H (f x y m) Q)
section
variable {X : Cx} {W : XM} {e : Expr} {se : SE} {pos : Pos}
theorem ia_add : PIpQ X .Add iaddv := by
  intro pins s σ H v w vv ww Q I rv rw' ⟨φ, m, x, y, h1, h2, h3, h4⟩
  unfold iaddv at h4
  split at h4
  · cases h2; cases h3
    exact iop_add pins s σ H _ _ vv ww Q I rv rw' ⟨_, _, rfl, rfl, h4.same h1 rfl⟩
  · cases h2; cases h3
    split at h4
    · rename_i hz
      exact iop_add_str pins s σ H _ _ vv ww Q I rv rw' ⟨_, _, rfl, rfl, by rw [str_len, str_len, sl_eq]; exact hz, by rw [str_app]; exact h4.same h1 rfl⟩
    · exact h4.not.elim
  · exact h4.not.elim
theorem ia_sub : PIpQ X .Sub isubv := by
  intro pins s σ H v w vv ww Q I rv rw' ⟨φ, m, x, y, h1, h2, h3, h4⟩
  unfold isubv at h4
  split at h4
  · cases h2; cases h3
    exact iop_sub pins s σ H _ _ vv ww Q I rv rw' ⟨_, _, rfl, rfl, h4.same h1 rfl⟩
  · exact h4.not.elim
theorem x_aug (i : Nat) {x : Str} {op : Operator} {f : PV → PV → MH → OR} {pos' : Pos} (hN : X.N.Nodup) (ho : PIpQ X op f) (he : QE X W e se) (hi : X.N[i]? = some x := by rfl) (hx : L2.Loc X.env.scope x := by first | exact .inl rfl | exact .inr rfl)
    (hf : X.fn x = true ∨ X.env.scope.names.lookup x = some .local := by first | exact .inl rfl | exact .inr rfl) : QS X W (.AugAssign (.Name x pos') op e pos) (xAug i f se) :=
  ⟨ps_imp (ps_aug hN hi hx he.pe ho hf) fun D σ H ⟨φ, l, m, h1, h2, h3⟩ => by
    unfold xAug sVar at h3
    cases hl : l[i]? with
    | none => rw [hl] at h3; exact h3.elim
    | some o =>
      cases o with
      | none => rw [hl] at h3; exact h3.elim
      | some x =>
        rw [hl] at h3
        have h3 : PostS X.K W φ H (R.then l (se l m) fun y m2 => R.then l (lift (f x y m2)) fun z m3 => .nx (l.set i (some z)) m3) D := h3
        obtain ⟨v, e1, e2⟩ := h2.2 i x hl
        refine ⟨v, e1, φ, l, m, h1, h2, (PostS.then (rel := rV X.K) h2 h3).mono fun w H1 ⟨φ1, y, m1, x1, a1, b1, c1, d1⟩ => ?_⟩
        have d2 := PostS.then (rel := rV X.K) b1 d1
        obtain ⟨z, m3, ez, q⟩ := PostO.of (Q := fun z H2 => D.nx (σ.set i (some z)) H2) (W := W) (l := l) (σ := σ) (d2.mono fun z H2 ⟨φ2, zz, m3, x2, a2, b2, c2, d3⟩ => d3 φ2 _ H2 Ext.refl a2 (b2.set i c2))
        exact ⟨φ1, m1, x, y, a1, RV.ext x1 e2, c1, z, m3, ez, q⟩⟩
theorem q_globI {x : Str} {i : Int} {t : Tok} (hg : Gl X x) (hm : X.mg x = some (.int i t)) (hd : (x == ("__debug__" : Str)) = false := by decide) : QE X W (.Name x pos) (sC (.int i)) := ⟨pe_imp (pe_glob (v := .int i) hg hm ⟨t, rfl⟩ hd) fun σ H Q ⟨φ, l, m, h1, h2, h3⟩ => h3 φ H _ Ext.refl h1 rfl⟩
theorem q_globS {x : Str} {z : Str} {t : Tok} (cs : List Nat) (hg : Gl X x) (hm : X.mg x = some (.str z t)) (hc : z.cps.toList = cs := by decide +kernel) (hd : (x == ("__debug__" : Str)) = false := by decide) : QE X W (.Name x pos) (sC (.str cs)) := ⟨pe_imp (pe_glob (v := .str z) hg hm ⟨t, rfl⟩ hd) fun σ H Q ⟨φ, l, m, h1, h2, h3⟩ => h3 φ H _ Ext.refl h1 (by subst hc; rfl)⟩
end
end SM

set_option Elab.async false
set_option linter.all false
set_option maxRecDepth 100000
set_option maxHeartbeats 1000000
namespace SM
open PySem PySem.Spec PyProof.Rows L2
/-! ## while -/
def whileL (t : SB) (body : SS) : Nat → SM.Loc → MH → RS
  | 0, _, _ => .bad
  | n + 1, l, m => R.then l (t l m) fun b m1 => if b = true then match body l m1 with
      | .nx l2 m2 => whileL t body n l2 m2
      | .ct l2 m2 => whileL t body n l2 m2
      | .bk l2 m2 => .nx l2 m2
      | r => r
    else .nx l m1
@[irreducible] def wfuel : Nat := 1000000
theorem wfuel_eq : wfuel = 1000000 := by unfold wfuel; rfl
def xWhile (t : SB) (body : SS) : SS := fun l m => whileL t body wfuel l m
section
variable {X : Cx} {W : XM} {c : Expr} {body : List Stmt} {t : SB} {sb : SS} {pos : Pos}
theorem x_while (hp : PassesOwn (model X.prog X.w) X.A X.env X.xe) (hc : QT X W c t) (hb : QSs X W body sb) : QS X W (.While c body [] pos) (xWhile t sb) := ⟨ps_imp (ps_while hp hc.pt hb.ps) fun D σ H ⟨φ, l, m, h1, h2, h3⟩ => by
  refine ⟨fun n σ H => ∃ φ l m, RH X.K H φ m ∧ RL X.K H φ l σ ∧ PostS X.K W φ H (whileL t sb n l m) D, ⟨wfuel, φ, l, m, h1, h2, h3⟩, ?_⟩
  rintro n σ1 H1 ⟨φ1, l1, m1, a1, b1, c1⟩
  cases n with
  | zero => exact c1.elim
  | succ n =>
    unfold whileL at c1
    refine ⟨φ1, l1, m1, a1, b1, (PostS.then (rel := rB) b1 c1).mono ?_⟩
    rintro v H2 ⟨φ2, x, m2, e2, a2, b2, hx, d2⟩
    cases hx
    cases v with
    | false => exact iteF (d2 φ2 σ1 H2 Ext.refl a2 b2)
    | true =>
      have d2 : PostS X.K W φ2 H2 (match sb l1 m2 with
        | .nx l2 m2 => whileL t sb n l2 m2
        | .ct l2 m2 => whileL t sb n l2 m2
        | .bk l2 m2 => .nx l2 m2
        | r => r) D := d2
      refine iteT ⟨fun σ' H' => ∃ φ l m, RH X.K H' φ m ∧ RL X.K H' φ l σ' ∧ PostS X.K W φ H' (whileL t sb n l m) D, fun σ' H' w => ⟨n, Nat.lt_succ_self n, w⟩, φ2, l1, m2, a2, b2, ?_⟩
      cases hb : sb l1 m2 with
      | nx l4 m4 => rw [hb] at d2; exact fun φ4 σ4 H4 x4 a4 b4 => ⟨φ4, l4, m4, a4, b4, PostS.ext x4 d2⟩
      | ct l4 m4 => rw [hb] at d2; exact fun φ4 σ4 H4 x4 a4 b4 => ⟨φ4, l4, m4, a4, b4, PostS.ext x4 d2⟩
      | bk l4 m4 => rw [hb] at d2; exact d2
      | rt x m4 => rw [hb] at d2; exact d2
      | ex c fs l4 m4 => rw [hb] at d2; exact d2
      | bad => rw [hb] at d2; exact d2⟩
end

/-! ## list comprehensions, one clause -/
def wipeP (l : SM.Loc) : List Nat → SM.Loc
  | [] => l
  | v :: vs => (wipeP l vs).set v none
theorem RL.wipe {K : PySem.W.Frag} {H : Hp} {φ : List Addr} {l : SM.Loc} {σ : L2.St} (h : RL K H φ l σ) : ∀ vs : List Nat, RL K H φ (wipeP l vs) (wipe σ vs)
  | [] => h
  | v :: vs => by
    have ih := RL.wipe h vs
    unfold wipeP L2.wipe
    refine ⟨by simp [ih.1], fun i x e => ?_⟩
    by_cases hi : v = i
    · subst hi
      by_cases hl : v < (wipeP l vs).length
      · rw [List.getElem?_set_self hl] at e; cases e
      · rw [List.getElem?_eq_none (by simp; omega)] at e; cases e
    · rw [List.getElem?_set_ne hi] at e
      obtain ⟨w, e1, e2⟩ := ih.2 i x e
      exact ⟨w, by rw [List.getElem?_set_ne hi]; exact e1, e2⟩
open Classical in
noncomputable def compL (it : ITM) (g : STg) (t : SB) (e : SE) (d : Nat) (l0 : SM.Loc) : List PV → MH → R PV
  | [], m => if it.ok m then .ok (.ref d) m else .bad
  | x :: r, m => if it.ok m then match g x l0 m with
      | some (l1, m1) => match t l1 m1 with
        | .ok b m2 => if b = true then match e l1 m2 with
            | .ok y m3 => match lst? m3 d with
              | some acc => if acc.length < 16777216 then compL it g t e d l0 r (m3.set d (.lst (acc ++ [y]))) else .bad
              | none => .bad
            | _ => .bad
          else compL it g t e d l0 r m2
        | _ => .bad
      | none => .bad
    else .bad
noncomputable def sLc (si : SI) (g : STg) (t : SB) (e : SE) (vs : List Nat) : SE := fun l m => (si l m).bind fun it m1 => compL it g t e m1.length (wipeP l vs) it.items (m1 ++ [.lst []])
/-- what a test list reads: none, one -/
def tYesS : SB := fun _ m => .ok true m
/-- targets whose slots are known: a name, names in a tuple -/
structure QN (X : Cx) (tg : Expr) (g : STg) (vs : List Nat) : Prop where
  pg : PG X tg (fun v σ H Q => ∃ φ l m x, RH X.K H φ m ∧ RL X.K H φ l σ ∧ RV X.K H φ x v ∧ ∃ l' m', g x l m = some (l', m') ∧ ∀ φ' σ' H', wipe σ' vs = wipe σ vs → Ext X.K φ H φ' H' → RH X.K H' φ' m' → RL X.K H' φ' l' σ' → Q σ' H')
theorem wipe_set {σ : L2.St} {i : Nat} {x : Option V} : ∀ {vs : List Nat}, i ∈ vs → wipe (σ.set i x) vs = wipe σ vs
  | [], h => by cases h
  | v :: vs, h => by
    unfold wipe
    by_cases hv : i ∈ vs
    · rw [wipe_set hv]
    · have e : v = i := by
        rcases List.mem_cons.mp h with q | q
        · exact q.symm
        · exact absurd q hv
      subst e
      have e2 : wipe (σ.set v x) vs = (wipe σ vs).set v x := by
        clear h
        induction vs with
        | nil => rfl
        | cons u us ih =>
          have hne : v ≠ u := fun z => hv (by rw [z]; exact List.mem_cons_self)
          unfold wipe
          rw [ih (fun z => hv (List.mem_cons_of_mem _ z)), List.set_comm _ _ hne]
      rw [e2, List.set_set]
section
variable {X : Cx} {pos : Pos}
theorem n_name (i : Nat) {vs : List Nat} {x : Str} (hN : X.N.Nodup) (hv : i ∈ vs) (hi : X.N[i]? = some x := by rfl) (hx : L2.Loc X.env.scope x := by first | exact .inl rfl | exact .inr rfl) (hf : X.fn x = true ∨ X.env.scope.names.lookup x = some .local := by first | exact .inl rfl | exact .inr rfl) : QN X (.Name x pos) (gNm i) vs :=
  ⟨pg_imp (pg_name hN hi hx hf) fun v σ H Q ⟨φ, l, m, x, h1, h2, h3, l', m', e, q⟩ => by
    cases e
    exact q φ _ H (wipe_set hv) Ext.refl h1 (h2.set i h3)⟩
structure QNs (X : Cx) (tg : List Expr) (g : STgs) (vs : List Nat) : Prop where
  pg : PGs X tg (fun v σ H Q => ∃ φ l m x, RH X.K H φ m ∧ RL X.K H φ l σ ∧ RVs X.K H φ x v ∧ ∃ l' m', g x l m = some (l', m') ∧ ∀ φ' σ' H', wipe σ' vs = wipe σ vs → Ext X.K φ H φ' H' → RH X.K H' φ' m' → RL X.K H' φ' l' σ' → Q σ' H')
theorem ns_nil {vs : List Nat} : QNs X [] gNilS vs := ⟨pgs_imp pgs_nil fun v σ H Q ⟨φ, l, m, x, h1, h2, h3, l', m', e, q⟩ => by
  unfold gNilS at e
  split at e
  · cases h3
    cases e
    exact ⟨rfl, q φ _ H rfl Ext.refl h1 h2⟩
  · cases e⟩
theorem ns_cons {e : Expr} {es : List Expr} {g : STg} {r : STgs} {vs : List Nat} (h1 : QN X e g vs) (h2 : QNs X es r vs) (hs : (assignEach (e :: es) X.env).map (·.2) = assign e X.env :: (assignEach es X.env).map (·.2) := by rfl) : QNs X (e :: es) (gConsS g r) vs :=
  ⟨pgs_imp (pgs_cons h1.pg h2.pg hs) fun v σ H Q ⟨φ, l, m, x, h1, h2, h3, l', m', e, q⟩ => by
    unfold gConsS at e
    split at e
    · rename_i x xs
      obtain ⟨w, ws, rfl, r1, r2⟩ := h3
      split at e
      · rename_i l1 m1 e1
        exact ⟨w, ws, rfl, φ, l, m, x, h1, h2, r1, l1, m1, e1, fun φ1 σ1 H1 w1 x1 a1 b1 => ⟨φ1, l1, m1, xs, a1, b1, RVs.ext x1 r2, l', m', e, fun φ2 σ2 H2 w2 x2 a2 b2 => q φ2 σ2 H2 (w2.trans w1) (x1.trans x2) a2 b2⟩⟩
      · cases e
    · cases e⟩
theorem n_tup {es : List Expr} {k n : Nat} {g : STgs} {vs : List Nat} (hc : X.calm = true) (h : QNs X es g vs) (hn : (assignEach es X.env).length = n := by rfl) (hst : (assignEach es X.env).findIdx? (·.1) = none := by rfl) : QN X (.Tuple es k pos) (gTupS n g) vs :=
  ⟨pg_imp (pg_or (pg_tup hc h.pg hn hst) (pg_unl hc h.pg hn hst)) fun v σ H Q ⟨φ, l, m, x, h1, h2, h3, l', m', e, q⟩ => by
    unfold gTupS at e
    split at e
    · obtain ⟨a, us, rfl, r1, r2⟩ := h3
      split at e
      · rename_i hz
        exact .inl ⟨a, us, rfl, r1, by rw [r2.length]; exact hz, φ, l, m, _, h1, h2, r2, l', m', e, q⟩
      · cases e
    · split at e
      · rename_i xs hs
        obtain ⟨a, us, rfl, r1, r2⟩ := h1.seq h3 hs
        split at e
        · rename_i hz
          exact .inr ⟨a, us, rfl, r1, by rw [r2.length]; exact hz, φ, l, m, _, h1, h2, r2, l', m', e, q⟩
        · cases e
      · cases e
    · cases e⟩
end
structure QTs (X : Cx) (W : XM) (e : List Expr) (s : SB) : Prop where
  pt : PTs X e (Rdg X.K rB W s)
section
variable {X : Cx} {W : XM} {e : Expr} {s : SB}
theorem ts_nil : QTs X W [] tYesS := ⟨⟨fun pins s σ H Q I ⟨φ, l, m, h1, h2, h3⟩ => pts_nil.run pins s σ H Q I (h3 φ H true Ext.refl h1 rfl)⟩⟩
theorem ts_one (h : QT X W e s) : QTs X W [e] s := ⟨pts_one h.pt⟩
variable {elt tg iter : Expr} {ifs : List Expr} {scope : Scope} {own : List (Str × Nat)} {pos : Pos} {si : SI} {g : STg} {t : SB} {se : SE}
theorem wipe_sub {σ : L2.St} {vs : List Nat} : ∀ us : List Nat, (∀ u ∈ us, u ∈ vs) → wipe (wipe σ vs) us = wipe σ vs
  | [], _ => rfl
  | u :: us, h => by
    show (wipe (wipe σ vs) us).set u none = wipe σ vs
    rw [wipe_sub us fun x hx => h x (List.mem_cons_of_mem _ hx)]
    have hu := h u List.mem_cons_self
    apply List.ext_getElem?
    intro i
    by_cases hi : u = i
    · subst hi
      by_cases hl : u < (wipe σ vs).length
      · rw [List.getElem?_set_self hl]
        cases hw : (wipe σ vs)[u]? with
        | none => rw [List.getElem?_eq_none_iff] at hw; omega
        | some o =>
          cases o with
          | none => rfl
          | some x => exact absurd hu (wipe_some hw).2
      · rw [List.getElem?_eq_none (by simp; omega), List.getElem?_eq_none (by omega)]
    · rw [List.getElem?_set_ne hi]
/-- the reading of a comprehension from the reckoning -/
theorem lc_at {Q : VK} {σ : L2.St} {H : Hp} {vs : List Nat} (h : Rdg X.K (rV X.K) W (sLc si g t se vs) σ H Q) :
    tLc (RdI X.K W si) (fun v σ H Q => ∃ φ l m x, RH X.K H φ m ∧ RL X.K H φ l σ ∧ RV X.K H φ x v ∧ ∃ l' m', g x l m = some (l', m') ∧ ∀ φ' σ' H', wipe σ' vs = wipe σ vs → Ext X.K φ H φ' H' → RH X.K H' φ' m' → RL X.K H' φ' l' σ' → Q σ' H')
      (Rdg X.K rB W0 t) (Rdg X.K (rV X.K) W0 se) vs σ H Q := by
  obtain ⟨φ, l, m, h1, h2, h3⟩ := h
  refine ⟨φ, l, m, h1, h2, ?_⟩
  unfold sLc at h3
  cases hsi : si l m with
  | bad => rw [hsi] at h3; exact h3
  | ex c fs m' => rw [hsi] at h3; exact h3
  | ok it m1 =>
    rw [hsi] at h3
    have h3 : Post X.K (rV X.K) W φ l σ H (compL it g t se m1.length (wipeP l vs) it.items (m1 ++ [.lst []])) Q := h3
    intro φ1 H1 J x1 a1 w D nD
    have hlen := a1.len
    refine lc_it (g := fun v σ H Q => ∃ φ l m x, RH X.K H φ m ∧ RL X.K H φ l σ ∧ RV X.K H φ x v ∧ ∃ l' m', g x l m = some (l', m') ∧ ∀ φ' σ' H', wipe σ' vs = wipe σ vs → Ext X.K φ H φ' H' → RH X.K H' φ' m' → RL X.K H' φ' l' σ' → Q σ' H') (tt := Rdg X.K rB W0 t) (te := Rdg X.K (rV X.K) W0 se) (vs := vs) (σ := σ) (H1 := H1) (D := D) (Qd := fun H => Q (.ref D) H) w (fun i H2 => ∃ φ2 m2, Ext X.K φ1 H1 φ2 H2 ∧ RH X.K H2 φ2 m2 ∧ φ2[m1.length]? = some D ∧ Post X.K (rV X.K) W φ2 l σ H2 (compL it g t se m1.length (wipeP l vs) (it.items.drop i) m2) Q) ?_ ?_ ?_ ?_
    · obtain ⟨e2, a2, r2⟩ := a1.newL nD (show RVs X.K H1 φ1 [] [] from rfl)
      exact ⟨_, _, e2, a2, by rw [← hlen]; simp, Post.ext (x1.trans e2) h3⟩
    · rintro i H2 hi ⟨φ2, m2, x2, a2, d2, p2⟩
      refine ⟨φ2, m2, x2, a2, ?_⟩
      cases hd : it.items.drop i with
      | nil =>
        rw [hd] at p2
        unfold compL at p2
        by_cases hk : it.ok m2
        · exact hk
        · rw [if_neg hk] at p2; exact p2.elim
      | cons x r =>
        rw [hd] at p2
        unfold compL at p2
        by_cases hk : it.ok m2
        · exact hk
        · rw [if_neg hk] at p2; exact p2.elim
    · rintro i v H2 H2' hi ⟨φ2, m2, x2, a2, d2, p2⟩ ⟨rfl, hv⟩
      have hi' : i < it.items.length := hi
      rw [List.drop_eq_getElem_cons hi'] at p2
      unfold compL at p2
      by_cases hk : it.ok m2
      · rw [if_pos hk] at p2
        obtain ⟨x0', hx1, hx2⟩ := hv φ2 m2 x2 a2 hk
        rw [List.getElem?_eq_getElem hi'] at hx1
        cases hx1
        cases hgx : g it.items[i] (wipeP l vs) m2 with
        | none => rw [hgx] at p2; exact p2.elim
        | some p =>
          obtain ⟨l3, m3⟩ := p
          rw [hgx] at p2
          dsimp only at p2
          refine ⟨φ2, wipeP l vs, m2, _, a2, (h2.ext (x1.trans x2)).wipe vs, hx2, l3, m3, hgx, fun φ3 σ3 H3 w3 x3 a3 b3 => ⟨by rw [w3, wipe_sub vs fun _ h => h], φ3, l3, m3, a3, b3, ?_⟩⟩
          have p3 := Post.ext x3 p2
          cases ht : t l3 m3 with
          | bad => rw [ht] at p3; exact p3
          | ex c fs m' => rw [ht] at p3; exact p3.elim
          | ok b m4 =>
            rw [ht] at p3
            dsimp only at p3
            intro φ4 H4 b' x4 a4 hb
            cases hb
            cases b with
            | false => exact iteF ⟨φ4, m4, (x2.trans x3).trans x4, a4, x4.get (x3.get d2), Post.ext x4 p3⟩
            | true =>
              rw [if_pos rfl] at p3
              refine iteT ⟨φ4, l3, m4, a4, b3.ext x4, ?_⟩
              have p4 := Post.ext x4 p3
              cases he : se l3 m4 with
              | bad => rw [he] at p4; exact p4
              | ex c fs m' => rw [he] at p4; exact p4.elim
              | ok y m5 =>
                rw [he] at p4
                dsimp only at p4
                intro φ5 H5 u x5 a5 r5
                cases hl : lst? m5 m1.length with
                | none => rw [hl] at p4; exact p4.elim
                | some acc =>
                  rw [hl] at p4
                  dsimp only at p4
                  have d5 : φ5[m1.length]? = some D := x5.get (x4.get (x3.get d2))
                  obtain ⟨D', us, e1, e2, e3, e4⟩ := a5.lst (n := m1.length) (v := .ref D) ⟨D, d5, rfl⟩ hl
                  cases e2
                  by_cases hz : acc.length < 16777216
                  · rw [if_pos hz] at p4
                    obtain ⟨f1, f2⟩ := a5.setL d5 (lst_some hl) (e4.append (show RVs X.K H5 φ5 [y] [u] from ⟨u, [], rfl, r5, rfl⟩))
                    exact ⟨us, e3, by rw [e4.length, sl_eq]; exact hz, φ5, _, (((x2.trans x3).trans x4).trans x5).trans f1, f2, f1.get d5, Post.ext (x5.trans f1) p4⟩
                  · rw [if_neg hz] at p4; exact p4.elim
      · rw [if_neg hk] at p2; exact p2.elim
    · rintro H2 ⟨φ2, m2, x2, a2, d2, p2⟩
      rw [List.drop_of_length_le (Nat.le_refl _)] at p2
      unfold compL at p2
      by_cases hk : it.ok m2
      · rw [if_pos hk] at p2
        exact p2 φ2 H2 (.ref D) Ext.refl a2 ⟨D, d2, rfl⟩
      · rw [if_neg hk] at p2; exact p2.elim
theorem q_lc (hc : X.calm = true) (hN : X.N.Nodup) (hi : QI X W tg iter si) (ok : BlkOk X.N X.env.scope scope own)
    (hg : ∀ (s : Shared) (H : Hp) (C : Addr) (cl : List (Str × Addr)) (fp : List Addr), QN (X.blk s H scope (compEnvC scope cl C X.env) fp) tg g (own.map (·.2))) (ht : ∀ (s : Shared) (H : Hp) (C : Addr) (cl : List (Str × Addr)) (fp : List Addr), QTs (X.blk s H scope (compEnvC scope cl C X.env) fp) W0 ifs t)
    (he : ∀ (s : Shared) (H : Hp) (C : Addr) (cl : List (Str × Addr)) (fp : List Addr), QE (X.blk s H scope (compEnvC scope cl C X.env) fp) W0 elt se) (hs : ∀ x, foldedSetIterable iter X.env x = pure x := by intro _; rfl) :
    QE X W (.ListComp elt [⟨tg, iter, ifs, 0⟩] scope pos) (sLc si g t se (own.map (·.2))) :=
  ⟨pe_imp (pe_lc hc hN hi.pi ok (fun s H C cl fp => (hg s H C cl fp).pg) (fun s H C cl fp => (ht s H C cl fp).pt) (fun s H C cl fp => (he s H C cl fp).pe) hs) fun σ H Q h => lc_at h⟩
theorem x_setLc (i : Nat) {y : Str} {py spos : Pos} (hc : X.calm = true) (hN : X.N.Nodup) (hy : X.N[i]? = some y) (hyl : X.env.scope.names.lookup y = some .local)
    (hsw : swapsWith (.ListComp elt [⟨tg, iter, ifs, 0⟩] scope pos) (some (.Name y py)) spos.line X.env = pure true) (hi : QI X W tg iter si) (ok : BlkOk X.N X.env.scope scope own)
    (hg : ∀ (s : Shared) (H : Hp) (C : Addr) (cl : List (Str × Addr)) (fp : List Addr), QN (X.blk s H scope (compEnvC scope cl C X.env) fp) tg g (own.map (·.2))) (ht : ∀ (s : Shared) (H : Hp) (C : Addr) (cl : List (Str × Addr)) (fp : List Addr), QTs (X.blk s H scope (compEnvC scope cl C X.env) fp) W0 ifs t)
    (he : ∀ (s : Shared) (H : Hp) (C : Addr) (cl : List (Str × Addr)) (fp : List Addr), QE (X.blk s H scope (compEnvC scope cl C X.env) fp) W0 elt se) (hs : ∀ x, foldedSetIterable iter X.env x = pure x := by intro _; rfl) :
    QS X W (.Assign [.Name y py] (.ListComp elt [⟨tg, iter, ifs, 0⟩] scope pos) spos) (xSet i (sLc si g t se (own.map (·.2)))) :=
  ⟨ps_imp (ps_setLc hc hN hy hyl hsw hi.pi ok (fun s H C cl fp => (hg s H C cl fp).pg) (fun s H C cl fp => (ht s H C cl fp).pt) (fun s H C cl fp => (he s H C cl fp).pe) hs) fun D σ H ⟨φ, l, m, h1, h2, h3⟩ =>
    lc_at ⟨φ, l, m, h1, h2, (PostS.then (rel := rV X.K) h2 h3).mono fun v H1 ⟨φ1, x, m1, e1, a1, b1, c1, d1⟩ => d1 φ1 _ H1 Ext.refl a1 (b1.set i c1)⟩⟩
end
end SM

set_option Elab.async false
set_option linter.all false
set_option maxRecDepth 100000
set_option maxHeartbeats 1000000
namespace SM
open PySem PySem.Spec PyProof.Rows L2
/-! ## sep.join(a list or tuple of texts) -/
def strs? : List PV → Option (List (List Nat))
  | [] => some []
  | .str s :: r => (strs? r).map (s :: ·)
  | _ :: _ => none
def joinL (a : List Nat) (ys : List (List Nat)) : List Nat := (PySem.Txt.join ⟨a.toArray⟩ (ys.map fun y => ⟨y.toArray⟩)).cps.toList
def joinv : PV → List PV → MH → OR
  | .str a, [.ref n], m => match seq? m n with
    | some xs => match strs? xs with
      | some ys => if (ys.map (·.length)).sum + ys.length * a.length ≤ 16777216 then some (.str (joinL a ys), m) else none
      | none => none
    | none => none
  | .str a, [.tup xs], m => match strs? xs with
      | some ys => if (ys.map (·.length)).sum + ys.length * a.length ≤ 16777216 then some (.str (joinL a ys), m) else none
      | none => none
  | _, _, _ => none
theorem strs_rvs {K : PySem.W.Frag} {H : Hp} {φ : List Addr} : ∀ {xs : List PV} {ys : List (List Nat)} {vs : List V}, strs? xs = some ys → RVs K H φ xs vs → vs = (ys.map fun y => (⟨y.toArray⟩ : Str)).map V.str
  | [], ys, vs, e, r => by cases e; cases r; rfl
  | x :: xs, ys, vs, e, r => by
    obtain ⟨v, us, rfl, r1, r2⟩ := r
    cases x with
    | str s =>
      unfold strs? at e
      cases h : strs? xs with
      | none => rw [h] at e; cases e
      | some zs =>
        rw [h] at e
        cases e
        cases r1
        rw [strs_rvs h r2]
        rfl
    | _ => cases e
theorem str_eta (s : Str) : (⟨s.cps.toList.toArray⟩ : Str) = s := by cases s; simp
theorem lens_eq (ys : List (List Nat)) : ((ys.map fun y => (⟨y.toArray⟩ : Str)).map (·.length)).sum = (ys.map (·.length)).sum := by
  rw [List.map_map]
  congr 1
section
variable {X : Cx}
theorem m_join : MtQ X "str.join" joinv := .of fun v vs H Q φ m x xs h1 h2 h3 h4 => by
  have two : ∀ (a : List Nat) (p : Addr) (zs : List PV) (ws : List V), (SqL X.K H p ws ∨ SqT X.K H p ws) → RVs X.K H φ zs ws → PostO X.K φ H (match strs? zs with
      | some ys => if (ys.map (·.length)).sum + ys.length * a.length ≤ 16777216 then some (.str (joinL a ys), m) else none
      | none => none) Q → ∃ r, MtR X "str.join" r ∧ r (.str ⟨a.toArray⟩) [.ref p] H Q := by
    intro a p zs ws hp hr h
    cases hz : strs? zs with
    | none => rw [hz] at h; exact h.not.elim
    | some ys =>
      rw [hz] at h
      dsimp only at h
      split at h
      · rename_i hle
        have e := strs_rvs hz hr
        subst e
        refine ⟨_, mt_join, ⟨a.toArray⟩, p, ys.map fun y => ⟨y.toArray⟩, rfl, rfl, hp, ?_, h.same h1 (show V.str _ = V.str _ by unfold joinL; rw [str_eta])⟩
        rw [lens_eq, List.length_map, str_len]
        exact hle
      · exact h.not.elim
  unfold joinv at h4
  split at h4
  · cases h2
    obtain ⟨v, rfl, r⟩ := h3.one
    split at h4
    · rename_i zs hq
      obtain ⟨p, ws, rfl, q1, q2⟩ := h1.seq r hq
      exact two _ p zs ws (.inl q1) q2 h4
    · exact h4.not.elim
  · cases h2
    obtain ⟨v, rfl, r⟩ := h3.one
    obtain ⟨p, ws, rfl, q1, q2⟩ := r
    exact two _ p _ ws (.inr q1) q2 h4
  · exact h4.not.elim
end
/-! ## the readings -/
section
variable {Q : PV → MH → Prop} {E : EX} {l : SM.Loc} {m : MH} {D : ED} {a b c : SE} {s t : SS} {ta tb : SB} {as : SA}
theorem lt_ii {a b : Int} : ltv (.int a) (.int b) m = some (.bl (decide (a < b)), m) := by with_unfolding_all rfl
theorem le_ii {a b : Int} : lev (.int a) (.int b) m = some (.bl (decide (a ≤ b)), m) := by with_unfolding_all rfl
theorem gt_ii {a b : Int} : gtv (.int a) (.int b) m = some (.bl (decide (b < a)), m) := by with_unfolding_all rfl
theorem ge_ii {a b : Int} : gev (.int a) (.int b) m = some (.bl (decide (b ≤ a)), m) := by with_unfolding_all rfl
theorem lt1 {a b : Nat} : ([b] < [a]) ↔ b < a := by rw [List.cons_lt_cons_iff]; simp
theorem le_cc {a b : Nat} : lev (.str [a]) (.str [b]) m = some (.bl (decide (a ≤ b)), m) := by
  show some (PV.bl (!decide ([b] < [a])), m) = _
  congr 3
  by_cases h : a ≤ b
  · rw [decide_eq_true h, decide_eq_false (by rw [lt1]; omega)]; rfl
  · rw [decide_eq_false h, decide_eq_true (by rw [lt1]; omega)]; rfl
theorem muls_ii {a b : Int} : mulvS (.int a) (.int b) m = mulv (.int a) (.int b) m := by with_unfolding_all rfl
theorem muls_si {c : List Nat} {n : Int} : mulvS (.str c) (.int n) m = if 0 ≤ n ∧ n ≤ 1000 ∧ c.length ≤ 1000 then some (.str (List.replicate n.toNat c).flatten, m) else none := by with_unfolding_all rfl
theorem ins_cs {c : Nat} {s : List Nat} : inS (.str [c]) (.str s) m = some (.bl (decide (c ∈ s)), m) := by with_unfolding_all rfl
theorem iadd_ii {a b : Int} : iaddv (.int a) (.int b) m = some (.int (a + b), m) := by with_unfolding_all rfl
theorem isub_ii {a b : Int} : isubv (.int a) (.int b) m = some (.int (a - b), m) := by with_unfolding_all rfl
theorem w_onone {Q : Option Int → MH → Prop} : WP (oNone l m) Q E = Q none m := by with_unfolding_all rfl
theorem w_osome {Q : Option Int → MH → Prop} : WP (oSome a l m) Q E = WP (a l m) (fun x m1 => match x with | .int i => Q (some i) m1 | _ => False) E := by
  unfold oSome; rw [wp_bind]; refine wp_eq fun x m1 => ?_; cases x <;> with_unfolding_all rfl
theorem w_sl {lo hi : SO} : WP (sSl a lo hi l m) Q E = WP (a l m) (fun x m1 => WP (lo l m1) (fun i m2 => WP (hi l m2) (fun j m3 => WP (lift (slv x i j m3)) Q E) E) E) E := by
  unfold sSl; rw [wp_bind]; refine wp_eq fun x m1 => ?_; rw [wp_bind]; refine wp_eq fun i m2 => ?_; rw [wp_bind]
theorem sl_s {s : List Nat} {i j : Option Int} : slv (.str s) i j m = if s.length ≤ 16777216 then some (.str (cut s i j), m) else none := by with_unfolding_all rfl
theorem sl_t {s : List PV} {i j : Option Int} : slv (.tup s) i j m = some (.tup (cut s i j), m) := by with_unfolding_all rfl
theorem s_aug {i : Nat} {op : PV → PV → MH → OR} : WS (xAug i op a l m) D = WP (sVar i l m) (fun x m1 => WP (a l m1) (fun y m2 => WP (lift (op x y m2)) (fun z m3 => D.nx (l.set i (some z)) m3) (fun c fs m => D.ex c fs l m)) (fun c fs m => D.ex c fs l m)) (fun c fs m => D.ex c fs l m) := by
  unfold xAug
  rw [ws_then]; refine wp_eq fun x m1 => ?_; rw [ws_then]; refine wp_eq fun y m2 => ?_; rw [ws_then]; refine wp_eq fun z m3 => ?_; rw [ws_nx]
/-- while: an invariant with what is left -/
theorem ws_while (I : Nat → SM.Loc → MH → Prop)
    (hs : ∀ k l m, I k l m → WP (ta l m) (fun b m1 => if b = true then 0 < k ∧ WS (s l m1) ⟨I (k - 1), D.rt, D.nx, I (k - 1), D.ex⟩ else D.nx l m1) (fun c fs m => D.ex c fs l m)) :
    ∀ (n k : Nat) (l : SM.Loc) (m : MH), k < n → I k l m → WS (whileL ta s n l m) D
  | 0, k, l, m, hk, h => absurd hk (Nat.not_lt_zero _)
  | n + 1, k, l, m, hk, h => by
    unfold whileL
    rw [ws_then]
    refine (hs k l m h).mono fun b m1 q => ?_
    by_cases hb : b = true
    · rw [if_pos hb] at q ⊢
      obtain ⟨q0, q⟩ := q
      cases hr : s l m1 with
      | nx l2 m2 => rw [hr, ws_nx] at q; exact ws_while I hs n (k - 1) l2 m2 (by omega) q
      | ct l2 m2 => rw [hr, ws_ct] at q; exact ws_while I hs n (k - 1) l2 m2 (by omega) q
      | bk l2 m2 => rw [hr, ws_bk] at q; dsimp only; rw [ws_nx]; exact q
      | rt x m2 => rw [hr, ws_rt] at q; dsimp only; rw [ws_rt]; exact q
      | ex c fs l2 m2 => rw [hr] at q; dsimp only; unfold WS at q ⊢; exact q
      | bad => rw [hr, ws_bad] at q; exact q.elim
    · rw [if_neg hb] at q ⊢
      rw [ws_nx]
      exact q
theorem s_while (n : Nat) (hn : n < 1000000) (I : Nat → SM.Loc → MH → Prop) (h0 : I n l m)
    (hs : ∀ k l m, I k l m → WP (ta l m) (fun b m1 => if b = true then 0 < k ∧ WS (s l m1) ⟨I (k - 1), D.rt, D.nx, I (k - 1), D.ex⟩ else D.nx l m1) (fun c fs m => D.ex c fs l m)) : WS (xWhile ta s l m) D := by
  unfold xWhile
  exact ws_while I hs _ n l m (by rw [wfuel_eq]; exact hn) h0
end
end SM

set_option Elab.async false
set_option linter.all false
set_option maxRecDepth 100000
set_option maxHeartbeats 1000000
namespace SM
open PySem PySem.Spec PyProof.Rows L2
/-! ## str(int | text), tuple(x), list(x) -/
def dec (i : Int) : List Nat := ((toString i : String) : Str).cps.toList
def strv : List PV → MH → OR
  | [.int i], m => if i.natAbs.log2 < 1920 then some (.str (dec i), m) else none
  | [.str s], m => some (.str s, m)
  | _, _ => none
def tuplev : List PV → MH → OR
  | [.tup xs], m => some (.tup xs, m)
  | [.ref n], m => (seq? m n).map fun xs => (.tup xs, m)
  | _, _ => none
def listv : List PV → MH → OR
  | [.tup xs], m => some (.ref m.length, m ++ [.lst xs])
  | [.ref n], m => (seq? m n).map fun xs => (.ref m.length, m ++ [.lst xs])
  | _, _ => none
section
variable {X : Cx}
theorem c_str : CrQ X (.type "str") strv := .of fun vs H Q φ m xs h1 h2 h4 => by
  unfold strv at h4
  split at h4
  · obtain ⟨v, rfl, r⟩ := h2.one
    cases r
    split at h4
    · rename_i hz
      exact ⟨_, call_str_int, _, rfl, hz, h4.same h1 (show V.str _ = V.str _ by unfold dec; rw [str_eta])⟩
    · exact h4.not.elim
  · obtain ⟨v, rfl, r⟩ := h2.one
    cases r
    exact ⟨_, SkE.call_str_str, _, rfl, h4.same h1 rfl⟩
  · exact h4.not.elim
theorem c_tuple : CrQ X (.type "tuple") tuplev := .of fun vs H Q φ m xs h1 h2 h4 => by
  unfold tuplev at h4
  split at h4
  · obtain ⟨v, rfl, r⟩ := h2.one
    obtain ⟨a, ws, rfl, q1, q2⟩ := r
    exact ⟨_, call_tuple_of, a, ws, rfl, .inr ⟨q1, h4.same h1 ⟨a, ws, rfl, q1, q2⟩⟩⟩
  · obtain ⟨v, rfl, r⟩ := h2.one
    rename_i n
    cases hq : seq? m n with
    | none => rw [hq] at h4; exact h4.not.elim
    | some xs =>
      rw [hq] at h4
      obtain ⟨a, ws, rfl, q1, q2⟩ := h1.seq r hq
      exact ⟨_, call_tuple_of, a, ws, rfl, .inl ⟨q1, h4.newT h1 q2⟩⟩
  · exact h4.not.elim
theorem c_list : CrQ X (.type "list") listv := .of fun vs H Q φ m xs h1 h2 h4 => by
  unfold listv at h4
  split at h4
  · obtain ⟨v, rfl, r⟩ := h2.one
    obtain ⟨a, ws, rfl, q1, q2⟩ := r
    exact ⟨_, call_list_of, a, ws, rfl, .inr q1, h4.newL h1 q2⟩
  · obtain ⟨v, rfl, r⟩ := h2.one
    rename_i n
    cases hq : seq? m n with
    | none => rw [hq] at h4; exact h4.not.elim
    | some xs =>
      rw [hq] at h4
      obtain ⟨a, ws, rfl, q1, q2⟩ := h1.seq r hq
      exact ⟨_, call_list_of, a, ws, rfl, .inl q1, h4.newL h1 q2⟩
  · exact h4.not.elim
end
section
variable {m : MH}
theorem str_s {s : List Nat} : strv [.str s] m = some (.str s, m) := by with_unfolding_all rfl
theorem str_i {i : Int} (h : i.natAbs.log2 < 1920) : strv [.int i] m = some (.str (dec i), m) := by
  show (if _ then _ else _) = _; rw [if_pos h]
theorem tuple_t {xs : List PV} : tuplev [.tup xs] m = some (.tup xs, m) := by with_unfolding_all rfl
theorem tuple_r {n : Nat} {xs : List PV} (h : seq? m n = some xs) : tuplev [.ref n] m = some (.tup xs, m) := by
  show (seq? m n).map _ = _; rw [h]; with_unfolding_all rfl
theorem list_t {xs : List PV} : listv [.tup xs] m = some (.ref m.length, m ++ [.lst xs]) := by with_unfolding_all rfl
theorem list_r {n : Nat} {xs : List PV} (h : seq? m n = some xs) : listv [.ref n] m = some (.ref m.length, m ++ [.lst xs]) := by
  show (seq? m n).map _ = _; rw [h]; with_unfolding_all rfl
end
end SM

set_option Elab.async false
set_option linter.all false
set_option maxRecDepth 100000
set_option maxHeartbeats 1000000
namespace SM
open PySem PySem.Spec PyProof.Rows L2
/-! ## in: a text in a list of texts, a pair of integers in a list of such -/
theorem allO_map {α β : Type} {f : α → Option β} {g : α → β} : ∀ {xs : List α}, (∀ x ∈ xs, f x = some (g x)) → allO (xs.map f) = some (xs.map g)
  | [], _ => rfl
  | x :: xs, h => by
    rw [List.map_cons, h x List.mem_cons_self]
    show (allO (xs.map f)).map _ = _
    rw [allO_map fun y hy => h y (List.mem_cons_of_mem _ hy)]
    rfl
theorem lay_all {α : Type} {g : α → PyData} : ∀ xs : List α, (∀ x ∈ xs, PyData.canLay0 (g x) = true) → PyData.canLayAll0 (xs.map g) = true
  | [], _ => rfl
  | x :: xs, h => by simp [PyData.canLayAll0, h x List.mem_cons_self, lay_all xs fun y hy => h y (List.mem_cons_of_mem _ hy)]
theorem dep_all {α : Type} {g : α → PyData} {n : Nat} (h : ∀ x, PyData.depth (g x) ≤ n) : ∀ xs : List α, PyData.depthAll (xs.map g) ≤ n
  | [] => by simp [PyData.depthAll]
  | x :: xs => by have := h x; have := dep_all h xs; simp [PyData.depthAll]; omega
theorem shp {d : PyData} (h : PyData.canLay0 d = true) (h2 : PyData.depth d ≤ 64) : SeqAt.shaped d = true := by
  unfold SeqAt.shaped; rw [h, decide_eq_true h2]; rfl
theorem arr_inj {a b : List Nat} : ((⟨a.toArray⟩ : Str) == ⟨b.toArray⟩) = decide (a = b) := by
  by_cases h : a = b
  · subst h; simp
  · rw [decide_eq_false h]
    rw [beq_eq_false_iff_ne]
    intro e
    injection e with e
    exact h (by simpa using e)
theorem any_mem {α : Type} {f : α → Bool} {xs : List α} {p : Prop} [Decidable p] (h : (∃ x ∈ xs, f x = true) ↔ p) : xs.any f = decide p := by
  by_cases hp : p
  · rw [decide_eq_true hp, List.any_eq_true]; exact h.mpr hp
  · rw [decide_eq_false hp, List.any_eq_false]; exact fun x hx e => hp (h.mp ⟨x, hx, e⟩)
theorem inD_gen {α : Type} {m : MH} {r : Nat} {xs : List PV} {x : PV} {d : PyData} {us : List α} {g : α → PyData} (hs : seq? m r = some xs) (hx : toD m 8 x = some d) (hl : allO (xs.map (toD m 7)) = some (us.map g))
    (s1 : SeqAt.shaped d = true) (s2 : ∀ u ∈ us, PyData.canLay0 (g u) = true) (s3 : ∀ u, PyData.depth (g u) ≤ 8) {p : Prop} [Decidable p] (hp : (∃ u ∈ us, PyData.eqv (g u) d = true) ↔ p) : inD m x (.ref r) = some (decide p) := by
  have e : toD m 8 (.ref r) = some (.list (us.map g)) := by
    show (match seq? m r with | some xs => (allO (xs.map (toD m 7))).map PyData.list | none => none) = _
    rw [hs]
    dsimp only
    rw [hl]
    rfl
  have s4 : SeqAt.shaped (.list (us.map g)) = true := shp (by simp [PyData.canLay0, lay_all us s2]) (by have := dep_all (n := 8) s3 us; simp [PyData.depth]; omega)
  unfold inD
  rw [hx]
  dsimp only
  rw [e]
  dsimp only
  rw [if_pos ⟨s1, s4⟩, List.any_map]
  exact congrArg some (any_mem hp)
def Cps (t : List Nat) : Prop := ∀ c ∈ t, c < 1114112
theorem strOk_of {t : List Nat} (h : Cps t) : PyData.strOk ⟨t.toArray⟩ = true := by
  unfold PyData.strOk
  show t.toArray.all _ = true
  rw [Array.all_eq_true']
  intro x hx
  exact decide_eq_true (h x (by simpa using hx))
theorem inD_str {m : MH} {r : Nat} {ss : List (List Nat)} {t : List Nat} (hs : seq? m r = some (ss.map .str)) (ht : Cps t) (hss : ∀ s ∈ ss, Cps s) : inD m (.str t) (.ref r) = some (decide (t ∈ ss)) := by
  refine inD_gen (us := ss) (g := fun s => .str ⟨s.toArray⟩) hs rfl ?_ (shp (by simp [PyData.canLay0, strOk_of ht]) (by simp [PyData.depth])) (fun u hu => by simp [PyData.canLay0, strOk_of (hss u hu)]) (fun _ => by simp [PyData.depth]) ?_
  · rw [List.map_map]; exact allO_map fun x _ => rfl
  · constructor
    · rintro ⟨u, h1, h2⟩
      have h2 : ((⟨u.toArray⟩ : Str) == ⟨t.toArray⟩) = true := by simpa [PyData.eqv] using h2
      rw [arr_inj] at h2
      exact (of_decide_eq_true h2) ▸ h1
    · intro h
      exact ⟨t, h, by simp [PyData.eqv]⟩
theorem inD_int {m : MH} {r : Nat} {ss : List Int} {t : Int} (hs : seq? m r = some (ss.map .int)) : inD m (.int t) (.ref r) = some (decide (t ∈ ss)) := by
  refine inD_gen (us := ss) (g := fun s => .int s) hs rfl ?_ (shp (by simp [PyData.canLay0]) (by simp [PyData.depth])) (fun _ _ => by simp [PyData.canLay0]) (fun _ => by simp [PyData.depth]) ?_
  · rw [List.map_map]; exact allO_map fun x _ => rfl
  · constructor
    · rintro ⟨u, h1, h2⟩
      have h2 : u = t := by simpa [PyData.eqv] using h2
      exact h2 ▸ h1
    · intro h
      exact ⟨t, h, by simp [PyData.eqv]⟩
theorem inD_pair {m : MH} {r : Nat} {ss : List (Int × Int)} {x y : Int} (hs : seq? m r = some (ss.map fun p => .tup [.int p.1, .int p.2])) : inD m (.tup [.int x, .int y]) (.ref r) = some (decide ((x, y) ∈ ss)) := by
  refine inD_gen (us := ss) (g := fun p => .tuple [.int p.1, .int p.2]) hs rfl ?_ (shp (by simp [PyData.canLay0, PyData.canLayAll0]) (by simp [PyData.depth, PyData.depthAll])) (fun _ _ => by simp [PyData.canLay0, PyData.canLayAll0]) (fun _ => by simp [PyData.depth, PyData.depthAll]) ?_
  · rw [List.map_map]; exact allO_map fun x _ => rfl
  · constructor
    · rintro ⟨u, h1, h2⟩
      have h2 : u.1 = x ∧ u.2 = y := by simpa [PyData.eqv, PyData.eqvAll] using h2
      obtain ⟨rfl, rfl⟩ := h2
      exact h1
    · intro h
      exact ⟨(x, y), h, by simp [PyData.eqv, PyData.eqvAll]⟩
theorem ins_r {m : MH} {r : Nat} {x : PV} {b : Bool} (h : inD m x (.ref r) = some b) : inS x (.ref r) m = some (.bl b, m) := by
  have e : inS x (.ref r) m = inv x (.ref r) m := by
    unfold inS
    split
    · rename_i h2; cases h2
    · rfl
  rw [e]; unfold inv; rw [h]; rfl
theorem nins_r {m : MH} {r : Nat} {x : PV} {b : Bool} (h : inD m x (.ref r) = some b) : ninS x (.ref r) m = some (.bl (!b), m) := by
  have e : ninS x (.ref r) m = ninv x (.ref r) m := by
    unfold ninS
    split
    · rename_i h2; cases h2
    · rfl
  rw [e]; unfold ninv; rw [h]; rfl
/-! ## a comprehension, by an invariant -/
section
variable {it : ITM} {g : STg} {t : SB} {e : SE} {d : Nat} {l0 l : SM.Loc} {Q : PV → MH → Prop} {E : EX} {m m1 : MH} {si : SI} {vs : List Nat}
theorem wp_comp (I : Nat → List PV → MH → Prop)
    (hs : ∀ i x acc m, it.items[i]? = some x → m[d]? = some (.lst acc) → I i acc m → it.ok m ∧ WG (g x l0 m) (fun l1 m1 => WP (t l1 m1) (fun b m2 => if b = true then WP (e l1 m2) (fun y m3 => m3[d]? = some (.lst acc) ∧ acc.length < 16777216 ∧ I (i + 1) (acc ++ [y]) (m3.set d (.lst (acc ++ [y])))) NoE else m2[d]? = some (.lst acc) ∧ I (i + 1) acc m2) NoE))
    (hd : ∀ acc m, m[d]? = some (.lst acc) → I it.items.length acc m → it.ok m ∧ Q (.ref d) m) : ∀ (k i : Nat) (acc : List PV) (m : MH), k + i = it.items.length → m[d]? = some (.lst acc) → I i acc m → WP (compL it g t e d l0 (it.items.drop i) m) Q E
  | 0, i, acc, m, ek, hl, h => by
    have e' : i = it.items.length := by omega
    subst e'
    rw [List.drop_of_length_le (Nat.le_refl _)]
    obtain ⟨h1, h2⟩ := hd acc m hl h
    unfold compL
    rw [if_pos h1, wp_ok]
    exact h2
  | k + 1, i, acc, m, ek, hl, h => by
    have hi : i < it.items.length := by omega
    rw [List.drop_eq_getElem_cons hi]
    obtain ⟨h1, h2⟩ := hs i _ acc m (List.getElem?_eq_getElem hi) hl h
    unfold compL
    rw [if_pos h1]
    cases hg : g it.items[i] l0 m with
    | none => rw [hg] at h2; unfold WG at h2; exact h2.elim
    | some p =>
      obtain ⟨l1, m1⟩ := p
      rw [hg] at h2
      unfold WG at h2
      dsimp only at h2 ⊢
      obtain ⟨b, m2, et, h3⟩ := h2.run
      rw [et]
      dsimp only
      cases b with
      | false =>
        rw [if_neg (by decide)]
        rw [if_neg (by decide)] at h3
        exact wp_comp I hs hd k (i + 1) acc m2 (by omega) h3.1 h3.2
      | true =>
        rw [if_pos rfl]
        rw [if_pos rfl] at h3
        obtain ⟨y, m3, ee, h4, h5, h6⟩ := h3.run
        rw [ee]
        dsimp only
        rw [show lst? m3 d = some acc by unfold lst?; rw [h4]]
        dsimp only
        rw [if_pos h5]
        exact wp_comp I hs hd k (i + 1) (acc ++ [y]) _ (by omega) (List.getElem?_set_self (List.getElem?_eq_some_iff.mp h4).1) h6
/-- a comprehension -/
theorem w_lc {it : ITM} (hsi : si l m = .ok it m1) (I : Nat → List PV → MH → Prop) (h0 : I 0 [] (m1 ++ [.lst []]))
    (hs : ∀ i x acc m, it.items[i]? = some x → m[m1.length]? = some (.lst acc) → I i acc m → it.ok m ∧ WG (g x (wipeP l vs) m) (fun l1 m' => WP (t l1 m') (fun b m2 => if b = true then WP (e l1 m2) (fun y m3 => m3[m1.length]? = some (.lst acc) ∧ acc.length < 16777216 ∧ I (i + 1) (acc ++ [y]) (m3.set m1.length (.lst (acc ++ [y])))) NoE else m2[m1.length]? = some (.lst acc) ∧ I (i + 1) acc m2) NoE))
    (hd : ∀ acc m, m[m1.length]? = some (.lst acc) → I it.items.length acc m → it.ok m ∧ Q (.ref m1.length) m) : WP (sLc si g t e vs l m) Q E := by
  unfold sLc
  rw [hsi]
  show WP (compL it g t e m1.length (wipeP l vs) it.items (m1 ++ [.lst []])) Q E
  have := wp_comp (E := E) I hs hd it.items.length 0 [] _ (by omega) (by simp) h0
  rw [List.drop_zero] at this
  exact this
theorem w_yes {Q : Bool → MH → Prop} : WP (tYesS l m) Q E = Q true m := by with_unfolding_all rfl
theorem si_seqL {e : SE} {n : Nat} {xs : List PV} (h : e l m = .ok (.ref n) m1) (hq : seq? m1 n = some xs) : iSeq e l m = .ok ⟨xs, some n⟩ m1 := by
  unfold iSeq; rw [h]; show (match seq? m1 n with | some xs => _ | none => _) = _; rw [hq]
theorem si_seqT {e : SE} {xs : List PV} (h : e l m = .ok (.tup xs) m1) : iSeq e l m = .ok ⟨xs, none⟩ m1 := by
  unfold iSeq; rw [h]; with_unfolding_all rfl
theorem si_rng0 {b : SE} {j : Int} (n : Nat) (hn : n = j.toNat) (h : b l m = .ok (.int j) m1) (hj : j < 4611686018427387904) (hj0 : -4611686018427387904 ≤ j) : iRng1S b l m = .ok ⟨(List.range n).map fun i => .int (i : Nat), none⟩ m1 := by
  rw [si_rng1 h ⟨hj0, hj⟩]
  have : rng 0 j = (List.range n).map fun i => PV.int (i : Nat) := by
    apply List.ext_getElem?
    intro i
    by_cases hi : i < n
    · rw [rng_get (by omega)]; simp [hi]
    · rw [List.getElem?_eq_none (by rw [rng_len]; omega), List.getElem?_eq_none (by simp; omega)]
  rw [this]
end
section
variable {l : SM.Loc} {m : MH} {D : ED} {b : SE} {g : STg} {body : SS}
/-- for x in range(b), where b has effects -/
theorem s_for1W (h : WP (b l m) (fun x m1 => ∃ j : Int, x = .int j ∧ -4611686018427387904 ≤ j ∧ j < 4611686018427387904 ∧ ∃ I : Nat → SM.Loc → MH → Prop, I 0 l m1 ∧
    (∀ i l m, i < j.toNat → I i l m → WG (g (.int (i : Nat)) l m) (fun l1 m1 => WS (body l1 m1) ⟨I (i + 1), D.rt, D.nx, I (i + 1), D.ex⟩)) ∧ (∀ l m, I j.toNat l m → D.nx l m)) NoE) : WS (xFor (iRng1S b) g body l m) D := by
  obtain ⟨x, m1, e, j, rfl, h1, h2, I, h3, h4, h5⟩ := h.run
  exact s_for1 j.toNat rfl e h2 h1 I h3 h4 h5
/-- for x in a list that stays as it is -/
theorem s_forLW (h : WP (b l m) (fun x m1 => ∃ n xs, x = .ref n ∧ seq? m1 n = some xs ∧ ∃ I : Nat → SM.Loc → MH → Prop, I 0 l m1 ∧ (∀ i l m, I i l m → seq? m n = some xs) ∧
    (∀ i x l m, xs[i]? = some x → I i l m → WG (g x l m) (fun l1 m1 => WS (body l1 m1) ⟨I (i + 1), D.rt, D.nx, I (i + 1), D.ex⟩)) ∧ (∀ l m, I xs.length l m → D.nx l m)) NoE) : WS (xFor (iSeq b) g body l m) D := by
  obtain ⟨x, m1, e, n, xs, rfl, h1, I, h3, h4, h5, h6⟩ := h.run
  exact s_forL e h1 I h3 h4 h5 h6
/-- for x in a tuple -/
theorem s_forTW (h : WP (b l m) (fun x m1 => ∃ xs, x = .tup xs ∧ ∃ I : Nat → SM.Loc → MH → Prop, I 0 l m1 ∧
    (∀ i x l m, xs[i]? = some x → I i l m → WG (g x l m) (fun l1 m1 => WS (body l1 m1) ⟨I (i + 1), D.rt, D.nx, I (i + 1), D.ex⟩)) ∧ (∀ l m, I xs.length l m → D.nx l m)) NoE) : WS (xFor (iSeq b) g body l m) D := by
  obtain ⟨x, m1, e, xs, rfl, I, h3, h4, h5⟩ := h.run
  exact s_forT e I h3 h4 h5
/-- a comprehension over a list that stays as it is -/
theorem w_lcL {t : SB} {e : SE} {vs : List Nat} {Q : PV → MH → Prop} {E : EX} (h : WP (b l m) (fun x m1 => ∃ n xs, x = .ref n ∧ seq? m1 n = some xs ∧ ∃ I : Nat → List PV → MH → Prop, I 0 [] (m1 ++ [.lst []]) ∧
    (∀ i x acc m, xs[i]? = some x → m[m1.length]? = some (.lst acc) → I i acc m → seq? m n = some xs ∧ WG (g x (wipeP l vs) m) (fun l1 m' => WP (t l1 m') (fun b m2 => if b = true then WP (e l1 m2) (fun y m3 => m3[m1.length]? = some (.lst acc) ∧ acc.length < 16777216 ∧ I (i + 1) (acc ++ [y]) (m3.set m1.length (.lst (acc ++ [y])))) NoE else m2[m1.length]? = some (.lst acc) ∧ I (i + 1) acc m2) NoE)) ∧
    (∀ acc m, m[m1.length]? = some (.lst acc) → I xs.length acc m → seq? m n = some xs ∧ Q (.ref m1.length) m)) NoE) : WP (sLc (iSeq b) g t e vs l m) Q E := by
  obtain ⟨x, m1, ee, n, xs, rfl, h1, I, h3, h4, h5⟩ := h.run
  exact w_lc (si_seqL ee h1) I h3 h4 h5
/-- a comprehension over a range -/
theorem w_lcR {t : SB} {e : SE} {vs : List Nat} {Q : PV → MH → Prop} {E : EX} (h : WP (b l m) (fun x m1 => ∃ j : Int, x = .int j ∧ -4611686018427387904 ≤ j ∧ j < 4611686018427387904 ∧ ∃ I : Nat → List PV → MH → Prop, I 0 [] (m1 ++ [.lst []]) ∧
    (∀ i acc m, i < j.toNat → m[m1.length]? = some (.lst acc) → I i acc m → WG (g (.int (i : Nat)) (wipeP l vs) m) (fun l1 m' => WP (t l1 m') (fun b m2 => if b = true then WP (e l1 m2) (fun y m3 => m3[m1.length]? = some (.lst acc) ∧ acc.length < 16777216 ∧ I (i + 1) (acc ++ [y]) (m3.set m1.length (.lst (acc ++ [y])))) NoE else m2[m1.length]? = some (.lst acc) ∧ I (i + 1) acc m2) NoE)) ∧
    (∀ acc m, m[m1.length]? = some (.lst acc) → I j.toNat acc m → Q (.ref m1.length) m)) NoE) : WP (sLc (iRng1S b) g t e vs l m) Q E := by
  obtain ⟨x, m1, ee, j, rfl, h1, h2, I, h3, h4, h5⟩ := h.run
  refine w_lc (si_rng0 j.toNat rfl ee h2 h1) I h3 (fun i x acc m hx hl hi => ⟨trivial, ?_⟩) (fun acc m hl hi => ⟨trivial, h5 acc m hl ?_⟩)
  · have hx : ((List.range j.toNat).map fun i => PV.int (i : Nat))[i]? = some x := hx
    rw [List.getElem?_map] at hx
    by_cases hz : i < j.toNat
    · rw [List.getElem?_range hz] at hx
      cases hx
      exact h4 i acc m hz hl hi
    · rw [List.getElem?_eq_none (by simp; omega)] at hx; cases hx
  · have hi : I ((List.range j.toNat).map fun i => PV.int (i : Nat)).length acc m := hi
    rw [List.length_map, List.length_range] at hi
    exact hi
/-! lists that are changed -/
theorem get_set_eq {m : MH} {n : Nat} {o u : MO} (h : m[n]? = some u) : (m.set n o)[n]? = some o := List.getElem?_set_self (List.getElem?_eq_some_iff.mp h).1
theorem get_set_ne {m : MH} {n k : Nat} {o u : MO} (h : m[k]? = some u) (hn : n ≠ k) : (m.set n o)[k]? = some u := by rw [List.getElem?_set_ne hn]; exact h
theorem append_r {m : MH} {n : Nat} {xs : List PV} {v : PV} (h : m[n]? = some (.lst xs)) (hl : xs.length < 16777216) : appendv (.ref n) [v] m = some (.non, m.set n (.lst (xs ++ [v]))) := by
  unfold appendv
  dsimp only
  rw [show lst? m n = some xs by unfold lst?; rw [h]]
  dsimp only
  rw [if_pos hl]
theorem isLst_r {m : MH} {n : Nat} {xs : List PV} (h : m[n]? = some (.lst xs)) : isLst m (.ref n) = true := by
  show (seq? m n).isSome = true
  unfold seq?
  rw [h]
  rfl
theorem atI_snoc {α β : Type} {f : α → β} {xs : List α} {x : α} : atI ((xs ++ [x]).map f) (-1) = some (f x) := by
  unfold atI ixN
  rw [if_neg (by decide), if_pos (by simp; omega)]
  rw [List.length_map, List.length_append, List.length_singleton]
  have e : (-1 + ((xs.length + 1 : Nat) : Int)).toNat = xs.length := by omega
  rw [e]
  show (List.map f (xs ++ [x]))[xs.length]? = _
  simp
end
theorem at0 {α : Type} {x : α} {xs : List α} : atI (x :: xs) 0 = some x := by unfold atI ixN; rw [if_pos (by decide), if_pos (by simp)]; rfl
theorem at1 {α : Type} {x y : α} {xs : List α} : atI (x :: y :: xs) 1 = some y := by unfold atI ixN; rw [if_pos (by decide), if_pos (by simp; omega)]; rfl
theorem at2 {α : Type} {x y z : α} {xs : List α} : atI (x :: y :: z :: xs) 2 = some z := by unfold atI ixN; rw [if_pos (by decide), if_pos (by simp; omega)]; rfl
theorem at3 {α : Type} {x y z u : α} {xs : List α} : atI (x :: y :: z :: u :: xs) 3 = some u := by unfold atI ixN; rw [if_pos (by decide), if_pos (by simp; omega)]; rfl
theorem at4 {α : Type} {x y z u v : α} {xs : List α} : atI (x :: y :: z :: u :: v :: xs) 4 = some v := by unfold atI ixN; rw [if_pos (by decide), if_pos (by simp; omega)]; rfl
theorem at5 {α : Type} {x y z u v w : α} {xs : List α} : atI (x :: y :: z :: u :: v :: w :: xs) 5 = some w := by unfold atI ixN; rw [if_pos (by decide), if_pos (by simp; omega)]; rfl
theorem at6 {α : Type} {x y z u v w t : α} {xs : List α} : atI (x :: y :: z :: u :: v :: w :: t :: xs) 6 = some t := by unfold atI ixN; rw [if_pos (by decide), if_pos (by simp; omega)]; rfl
end SM

set_option Elab.async false
set_option linter.all false
set_option maxRecDepth 100000
set_option maxHeartbeats 1000000
namespace SM
open PySem PySem.Spec PyProof.Rows L2
/-! ## sorted(list of ints), tuples of integers that a module names, what is never reached -/
def ints? : List PV → Option (List Int)
  | [] => some []
  | .int i :: r => (ints? r).map (i :: ·)
  | _ => none
theorem ints_map : ∀ ns : List Int, ints? (ns.map .int) = some ns
  | [] => rfl
  | n :: ns => by rw [List.map_cons]; unfold ints?; rw [ints_map ns]; rfl
@[irreducible] def sortI (ns : List Int) : List Int := ns.mergeSort (fun a b => decide (a ≤ b))
theorem sortI_perm (ns : List Int) : (sortI ns).Perm ns := by unfold sortI; exact List.mergeSort_perm _ _
theorem sortI_srt (ns : List Int) : (sortI ns).Pairwise (· ≤ ·) := by
  unfold sortI
  have := List.pairwise_mergeSort (le := fun a b : Int => decide (a ≤ b)) (fun a b c h1 h2 => by simp at *; omega) (fun a b => by simp; omega) ns
  exact this.imp fun h => by simpa using h
theorem sortI_uniq {ns ns' : List Int} (p : ns'.Perm ns) (s : ns'.Pairwise (· ≤ ·)) : ns' = sortI ns :=
  List.Perm.eq_of_pairwise (le := (· ≤ ·)) (fun a b _ _ h1 h2 => by omega) s (sortI_srt ns) (p.trans (sortI_perm ns).symm)
def sortedv : List PV → MH → OR
  | [.ref n], m => match seq? m n with
    | some xs => match ints? xs with
      | some ns => some (.ref m.length, m ++ [.lst ((sortI ns).map .int)])
      | none => none
    | none => none
  | _, _ => none
section
variable {K : PySem.W.Frag} {H : Hp} {φ : List Addr}
theorem ints_rvs : ∀ {xs : List PV} {ns : List Int} {vs : List V}, ints? xs = some ns → RVs K H φ xs vs → vs = ns.map V.int
  | [], ns, vs, h, r => by cases h; cases r; rfl
  | .int i :: xs, ns, vs, h, r => by
    obtain ⟨v, ws, rfl, r1, r2⟩ := r
    unfold ints? at h
    cases hx : ints? xs with
    | none => rw [hx] at h; cases h
    | some ms =>
      rw [hx] at h
      cases h
      cases r1
      rw [ints_rvs hx r2]
      rfl
theorem rvs_ints : ∀ ns : List Int, RVs K H φ (ns.map .int) (ns.map V.int)
  | [] => rfl
  | n :: ns => ⟨_, _, rfl, rfl, rvs_ints ns⟩
end
section
variable {X : Cx} {W : XM} {pos : Pos}
theorem c_sorted : CrQ X (.builtin "sorted") sortedv := .of fun vs H Q φ m xs h1 h2 h4 => by
  unfold sortedv at h4
  split at h4
  · obtain ⟨v, rfl, r⟩ := h2.one
    rename_i n
    cases hq : seq? m n with
    | none => rw [hq] at h4; exact h4.not.elim
    | some xs =>
      rw [hq] at h4
      obtain ⟨a, ws, rfl, q1, q2⟩ := h1.seq r hq
      dsimp only at h4
      cases hi : ints? xs with
      | none => rw [hi] at h4; exact h4.not.elim
      | some ns =>
        rw [hi] at h4
        have e := ints_rvs hi q2
        subst e
        refine ⟨_, cr_sortedI, a, ns, rfl, q1, fun ns' p hp hs hn => ?_⟩
        rw [sortI_uniq hp hs]
        exact h4.newL h1 (rvs_ints _) p hn
  · exact h4.not.elim
def TupK (K : PySem.W.Frag) (a : Addr) (ns : List Int) : Prop := ∃ (o : Obj) (its : Array Value) (n : Nat), K.lookup a = some o ∧ o.cls = .type "tuple" ∧ o.data = .seq its n ∧ its.size ≤ sizeLine ∧ Vals (ns.map V.int) its.toList
theorem tupK2 {K : PySem.W.Frag} {a : Addr} {i j : Int} {s t : Tok} {n : Nat} {od : Option Addr} {sl : Array (Option Value)} (h : K.lookup a = some ⟨.type "tuple", od, .seq #[.int i s, .int j t] n, sl⟩) : TupK K a [i, j] :=
  ⟨_, _, _, h, rfl, rfl, (by show 2 ≤ sizeLine; decide), .cons ⟨_, rfl⟩ (.cons ⟨_, rfl⟩ .nil)⟩
theorem q_globT {x : Str} {a : Addr} {ns : List Int} (hg : Gl X x) (hm : X.mg x = some (.ref a)) (ht : TupK X.K a ns) (hd : (x == ("__debug__" : Str)) = false := by decide) : QE X W (.Name x pos) (sC (.tup (ns.map .int))) :=
  ⟨pe_imp (pe_glob (v := .ref a) hg hm rfl hd) fun σ H Q ⟨φ, l, m, h1, h2, h3⟩ => h3 φ H _ Ext.refl h1 ⟨a, ns.map V.int, rfl, .inr ht, rvs_ints ns⟩⟩
/-- a statement that is never reached -/
def xBad : SS := fun _ _ => .bad
theorem x_bad {st : Stmt} : QS X W st xBad := ⟨⟨fun _ _ _ _ _ _ ⟨_, _, _, _, _, h3⟩ => h3.elim⟩⟩
end
section
variable {m : MH}
theorem sorted_r {n : Nat} {ns : List Int} (h : seq? m n = some (ns.map .int)) : sortedv [.ref n] m = some (.ref m.length, m ++ [.lst ((sortI ns).map .int)]) := by
  show (match seq? m n with | some xs => _ | none => none) = _
  rw [h]
  dsimp only
  rw [ints_map]
end
end SM

set_option Elab.async false
set_option linter.all false
set_option maxRecDepth 100000
set_option maxHeartbeats 1000000
namespace SM
open PySem PySem.Spec PyProof.Rows L2
/-! ## type(x) is T -/
def sTis (T : String) (sa : SE) : SE := fun l m => (sa l m).bind fun x m1 => if okTy m1 x = true then .ok (.bl (decide (tyName x = T))) m1 else .bad
theorem tyb_of {K : PySem.W.Frag} {H : Hp} {φ : List Addr} {m : MH} (h : RH K H φ m) : ∀ {x : PV} {v : V}, RV K H φ x v → okTy m x = true → TyB K H v (tyName x)
  | .non, _, r, _ => by cases r; exact .non
  | .bl _, _, r, _ => by cases r; exact .bl _
  | .int _, _, r, _ => by cases r; exact .int _
  | .str _, _, r, _ => by cases r; exact .str _
  | .tup xs, _, r, _ => by obtain ⟨a, vs, rfl, r1, r2⟩ := r; exact .tup r1
  | .ref n, _, r, e => by
    have e : (seq? m n).isSome = true := e
    cases hq : seq? m n with
    | none => rw [hq] at e; cases e
    | some xs =>
      obtain ⟨a, ws, rfl, q1, q2⟩ := h.seq r hq
      exact .lst q1
section
variable {X : Cx} {W : XM} {a : Expr} {sa : SE} {p pos pos2 : Pos} {T : String}
theorem q_tis {Tn : Str} {pT : Pos} (hg : Gl X "type") (hm : X.mg "type" = none) (hgT : Gl X Tn) (hmT : X.mg Tn = none) (hvT : bootBuiltins Tn = some (.type T)) (ha : QE X W a sa) (mk : behindInMarks .Is (.Name Tn pT) = false)
    (hn : Tn ≠ "__name__" := by decide) (hd : (Tn == ("__debug__" : Str)) = false := by decide) (na : starEach [a] X.env = (false, eval a X.env) :: starEach [] X.env := by rfl) :
    QE X W (.Compare (.Call (.Name "type" p) [a] [] pos) [.Is] [.Name Tn pT] pos2) (sTis T sa) :=
  ⟨pe_imp (pe_cmpR op_isTyB (pe_callTy call_type1 hg hm (by decide +kernel) (pa_cons ha.pe pa_nil na) (he := na)) (pe_bltn (v := .ty T) hgT hmT hvT rfl hn hd) mk) fun σ H Q h => (one h).mono fun v H1 ⟨φ, m, x, _, c1, c2, c4⟩ => by
    by_cases hk : okTy m x = true
    · rw [if_pos hk] at c4
      exact ⟨v, _, rfl, tyb_of c1 c2 hk, _, _, rfl, rfl, c4 φ H1 _ Ext.refl c1 rfl⟩
    · rw [if_neg hk] at c4
      exact c4.elim⟩
--theorem t_tis {Tn : Str} {pT : Pos} (hg : Gl X "type") (hm : X.mg "type" = none) (hgT : Gl X Tn) (hmT : X.mg Tn = none) (hvT : bootBuiltins Tn = some (.type T)) (ha : QE X W a sa) (mk : behindInMarks .Is (.Name Tn pT) = false) : True := trivial
end
/-! ## exceptions of one class with one field -/
theorem RH.newX {K : PySem.W.Frag} {H : Hp} {φ : List Addr} {m : MH} {p : Addr} {u : HO} (h : RH K H φ m) (n : H p = none) : Ext K φ H φ (upd H p u) ∧ RH K (upd H p u) φ m := by
  have e : Ext K φ H φ (upd H p u) := ⟨⟨[], by simp⟩, fun a ws w => sqt_upd_new n w, fun _ _ _ w => by rw [upd_ne (ne_of_none w n)]; exact w⟩
  exact ⟨e, ⟨h.len, h.nd, fun i a o h1 h2 => (h.obj i a o h1 h2).new n e⟩⟩
/-- what is wanted of an exception, by what the def's own way out wants -/
def WEx (K : PySem.W.Frag) (C : Addr) (cn : String) (fn : Str) (E : XK) : XM := fun c fs φ _ m _ H => ∃ y, c = cn ∧ fs = [y] ∧ ∀ φ' H' d v, Ext K φ H φ' H' → RH K H' φ' m → RV K H' φ' y v → H' d = some (.xd [(fn, v)]) → E (.ref C) (some d) H'
/-- .. by what a try's body wants -/
def WTx (K : PySem.W.Frag) (C : Addr) (cn : String) (fn : Str) (Wx : WX) : XM := fun c fs φ l m σ H => ∃ y, c = cn ∧ fs = [y] ∧ ∀ φ' H' d v, Ext K φ H φ' H' → RH K H' φ' m → RL K H' φ' l σ → RV K H' φ' y v → H' d = some (.xd [(fn, v)]) → Wx (.ref C) (some d) σ H'
def PostX (K : PySem.W.Frag) (C : Addr) (cn : String) (fn : Str) (φ : List Addr) (H : Hp) (r : R PV) (Q : VK) (E : XK) : Prop := match r with
  | .ok x m => ∀ φ' H' v, Ext K φ H φ' H' → RH K H' φ' m → RV K H' φ' x v → Q v H'
  | .ex c fs m => ∀ φ' H', Ext K φ H φ' H' → RH K H' φ' m → WEx K C cn fn E c fs φ' [] m [] H'
  | .bad => False
def SpX (K : PySem.W.Frag) (C : Addr) (cn : String) (fn : Str) (n : Nat) (f : FS) : Sp := fun vs H Q E => vs.length = n ∧ ∃ φ m xs, RH K H φ m ∧ RVs K H φ xs vs ∧ PostX K C cn fn φ H (f xs m) Q E
/-- the promise of __init__: self.f = f -/
def SpI (K : PySem.W.Frag) (C : Addr) (fn : Str) : Sp := fun vs H Q _ => ∃ a y, vs = [.ref a, y] ∧ H a = some (exo a C none) ∧ ∀ dx, H dx = none → dx ≠ a → Q .non (upd (upd H dx (exd dx [(fn, y)])) a (exo a C (some dx)))
theorem exm_own {K : PySem.W.Frag} {S : Addr} (h1 : PySem.W.subIn K (.ref S) (.type "BaseException") = some true) (h2 : PySem.W.isClsIn K S = true) (h3 : PySem.W.typeIn K (.ref S) = some (.type "type")) (h4 : PySem.W.subIn K (.ref S) (.ref S) = some true) : PySem.W.exmOne K (.ref S) (.ref S) = some true := by
  have h2 : (PySem.W.clsIn K S).isSome = true := h2
  unfold PySem.W.exmOne
  rw [if_pos (by rw [h1]; rfl)]
  unfold PySem.W.kitCls
  simp [h2, h3, h4]
/-- what is known of an exception's class -/
structure ExcT (P : Program) (w : World) (K : PySem.W.Frag) (mg : Str → Option Value) (base : Heap) (x : Str) (C : Addr) (fn : Str) : Prop where
  gC : mg x = some (.ref C)
  T : OexC K C
  ini : ∃ (fI : Addr) (fd : FuncData), PySem.W.findIn K (.ref C) "__init__" = some (some (.ref fI)) ∧ PySem.W.typeIn K (.ref fI) = some (.type "function") ∧ FnOk P w K mg base CX0 1 fI fd ["self", fn] (SpI K C fn) ∧ Binds K fd ["self", fn] []
  no : PySem.W.findIn K (.ref C) fn = some none
  xf : XfC K C
  te : PySem.W.exmOne K (.ref C) (.ref C) = some true
section
variable {P : Program} {w : World} {K : PySem.W.Frag} {mg : Str → Option Value} {base : Heap}
theorem okI {x qual : Str} {st : Stmt} {f C : Addr} {fd : FuncData} {N : List Str} {fn : Str} (F : Fun K x qual st f fd) (S : FnScope N ["self", fn] (defScope st)) (hN : N = ([("self" : Str), fn] : List Str)) (T : OexC K C) (no : PySem.W.findIn K (.ref C) fn = some none)
    (hb : ∀ (cdv : Value) (A : Around) (outer : List Env) (s : Shared) (H : Hp) (E : XK), PSs (cxOf CX0 P w K mg base N qual (defScope st) f cdv A outer s H E).nox (defBody st) (tOst K fn (tVar 0) (tVar 1))) : FnOk P w K mg base CX0 1 f fd ["self", fn] (SpI K C fn) := by
  refine F.ok (k := 0) S (fun vs H Q E h => by obtain ⟨a, y, rfl, _⟩ := h; rfl) fun cdv A outer s H vs Q E hr hsp => ?_
  obtain ⟨a, y, rfl, ha, hq⟩ := hsp
  refine ⟨_, hb cdv A outer s H E, ?_⟩
  subst hN
  exact ⟨y, rfl, .ref a, rfl, a, C, rfl, T, no, .inl ⟨ha, fun dx n ne => hq dx n ne⟩⟩
theorem okXQ {x qual : Str} {st : Stmt} {f : Addr} {fd : FuncData} {N ps : List Str} {k : Nat} {C : Addr} {cn : String} {fn : Str} (F : Fun K x qual st f fd) (S : FnScope N ps (defScope st)) (b : SS)
    (h : ∀ (cdv : Value) (A : Around) (outer : List Env) (s : Shared) (H : Hp) (E : XK), Room k (A.deeper (envOfC qual (defScope st) s.heap.objs.size f cdv)) →
      QSs (cxOf (L2.CX P w) P w K mg base N qual (defScope st) f cdv A outer s H E) (WEx K C cn fn E) (defBody st) b) : FnOk P w K mg base (L2.CX P w) (k + 1) f fd ps (SpX K C cn fn ps.length (fnS ps.length N.length b)) := by
  refine F.okX S (fun vs H Q E h => h.1) fun cdv A outer s H vs Q E hr hsp => ?_
  obtain ⟨hl, φ, m, xs, h1, h2, h3⟩ := hsp
  have hle : ps.length ≤ N.length := by
    have := congrArg List.length S.pre
    rw [List.length_take] at this
    omega
  have hxl : xs.length = ps.length := by rw [← h2.length]; exact hl
  refine ⟨_, (h cdv A outer s H E hr).ps, φ, _, m, h1, rl_start hle h2 hxl, ?_⟩
  unfold fnS at h3
  rw [if_pos hxl] at h3
  cases hb : b (xs.map some ++ List.replicate (N.length - ps.length) none) m with
  | nx l m' => rw [hb] at h3; exact fun φ' σ' H' x a b => h3 φ' H' _ x a rfl
  | rt y m' => rw [hb] at h3; exact h3
  | bk l m' => rw [hb] at h3; exact h3.elim
  | ct l m' => rw [hb] at h3; exact h3.elim
  | ex c fs l m' => rw [hb] at h3; exact fun φ' σ' H' x a b => h3 φ' H' x a
  | bad => rw [hb] at h3; exact h3.elim
end
def CalX (P : Program) (w : World) (K : PySem.W.Frag) (mg : Str → Option Value) (base : Heap) (C : Addr) (cn : String) (fn : Str) (x : Str) (n k : Nat) (f : FS) : Prop :=
  ∃ (fa : Addr) (fd : FuncData) (ps : List Str), ps.length = n ∧ FnOk P w K mg base (L2.CX P w) k fa fd ps (SpX K C cn fn n f) ∧ mg x = some (.ref fa) ∧ PySem.W.keepIn K (.ref fa) = true ∧ Binds K fd ps []
theorem calX_mk {P : Program} {w : World} {K : PySem.W.Frag} {mg : Str → Option Value} {base : Heap} {C : Addr} {cn : String} {fn : Str} {x qual : Str} {st : Stmt} {f : Addr} {fd : FuncData} {ps : List Str} {k n : Nat} {g : FS} (hn : ps.length = n) (G : FnOk P w K mg base (L2.CX P w) k f fd ps (SpX K C cn fn n g)) (F : Fun K x qual st f fd) (hm : mg x = some (.ref f)) (hb : Binds K fd ps []) : CalX P w K mg base C cn fn x n k g :=
  ⟨f, fd, ps, hn, G, hm, F.kp, hb⟩
/-! ### raise -/
def xRaise (cn : String) (ses : SA) : SS := fun l m => R.then l (ses l m) fun xs m1 => .ex cn xs l m1
section
variable {X : Cx} {a : Expr} {es : List Expr} {ses : SA} {x fn : Str} {cn : String} {C : Addr} {E : XK} {p pos pos2 : Pos}
theorem x_raise (hc : X.calm = true) (T : ExcT X.prog X.w X.K X.mg X.base x C fn) (hr : Room 2 X.A) (tk : Takes X (fun cls d _ H => E cls d H)) (ha : QA X (WEx X.K C cn fn E) [a] ses) (hg : Gl X x := by rfl) (hdb : (x == ("__debug__" : Str)) = false := by decide)
    (he : starEach (a :: []) X.env = (false, eval a X.env) :: starEach [] X.env := by rfl) (hpl : (backTo pos (starEach [] X.env)).any (·.1) = false := by rfl) :
    QS X (WEx X.K C cn fn E) (.Raise (some (.Call (.Name x p) [a] [] pos)) none pos2) (xRaise cn ses) := by
  obtain ⟨fI, fd, iC, tI, F, hb⟩ := T.ini
  refine ⟨ps_imp (ps_raise hc tk (pmk_oex T.T iC tI F hr hb .nil pass0 hg T.gC ha.pa hdb he hpl)) fun D σ H ⟨φ, l, m, h1, h2, h3⟩ => ?_⟩
  refine ⟨φ, l, m, h1, h2, (PostS.then (rel := rA X.K) h2 h3).mono ?_⟩
  rintro vs H1 ⟨φ1, xs, m1, e1, a1, b1, c1, d1⟩
  obtain ⟨y, _, rfl, fin⟩ := d1 φ1 σ H1 Ext.refl a1 b1
  obtain ⟨v, ws, rfl, r1, rfl⟩ := c1
  refine ⟨by simp, fun q hq => ⟨q, v, rfl, upd_same, fun dx n ne => ?_⟩⟩
  have hdx : H1 dx = none := by rw [upd_ne ne] at n; exact n
  refine ⟨rfl, dx, [(fn, v)], upd_same, by rw [upd_ne ne, upd_same], hdx, ?_⟩
  have eH : upd (del (upd (upd (upd H1 q (exo q C none)) dx (exd dx [(fn, v)])) q (exo q C (some dx))) q) dx (.xd [(fn, v)]) = upd H1 dx (.xd [(fn, v)]) := by
    funext b
    by_cases hb1 : b = dx
    · subst hb1; rw [upd_same, upd_same]
    · rw [upd_ne hb1, upd_ne hb1]
      by_cases hb2 : b = q
      · subst hb2; rw [del_same, hq]
      · rw [del_ne hb2, upd_ne hb2, upd_ne hb1, upd_ne hb2]
  rw [eH]
  obtain ⟨x1, x2⟩ := a1.newX (u := .xd [(fn, v)]) hdx
  exact fin φ1 _ dx v x1 x2 (RV.ext x1 r1) upd_same
end
/-! ### a call that may raise, in a try -/
def sCallX (n : Nat) (f : FS) (a : SA) : SE := fun l m => (a l m).bind fun xs m1 => if xs.length = n then f xs m1 else .bad
section
variable {X : Cx} {e : Expr} {es : List Expr} {ses : SA} {x fn : Str} {cn : String} {C : Addr} {Wx : WX} {p pos : Pos} {n k j : Nat} {f : FS}
theorem q_callX (Cl : CalX X.prog X.w X.K X.mg X.base C cn fn x n k f) (hr : Room j X.A) (hk : k ≤ j) (hg : Gl X x) (tk : Takes X Wx) (ha : QA X (WTx X.K C cn fn Wx) (e :: es) ses) (hdb : (x == ("__debug__" : Str)) = false := by decide)
    (he : starEach (e :: es) X.env = (false, eval e X.env) :: starEach es X.env := by rfl) (hpl : (backTo pos (starEach es X.env)).any (·.1) = false := by rfl) : QE X (WTx X.K C cn fn Wx) (.Call (.Name x p) (e :: es) [] pos) (sCallX n f ses) := by
  obtain ⟨fa, fd, ps, hps, F, hm, hkp, hb⟩ := Cl
  refine ⟨pe_imp (pe_callS (E := fun σ => L2.WE Wx σ) F (hr.mono hk) hg hm hkp hb (fun σ => passAt tk σ) ha.pa hdb he hpl) fun σ H Q ⟨φ, l, m, h1, h2, h3⟩ => ?_⟩
  refine ⟨φ, l, m, h1, h2, (Post.bind (rel := rA X.K) h2 h3).mono ?_⟩
  rintro vs H1 ⟨φ1, xs, m1, e1, a1, b1, c1, d1⟩
  by_cases hz : xs.length = n
  · rw [if_pos hz] at d1
    refine ⟨by rw [RVs.length c1]; exact hz, φ1, m1, xs, a1, c1, ?_⟩
    cases hf : f xs m1 with
    | ok y m' => rw [hf] at d1; exact d1
    | ex c fs m' =>
      rw [hf] at d1
      intro φ2 H2 x2 a2
      obtain ⟨y, q1, q2, q3⟩ := d1 φ2 H2 x2 a2
      exact ⟨y, q1, q2, fun φ3 H3 d v x3 a3 r3 e3 => q3 φ3 H3 d v x3 a3 ((b1.ext x2).ext x3) r3 e3⟩
    | bad => rw [hf] at d1; exact d1.elim
  · rw [if_neg hz] at d1
    exact d1.elim
end
/-! ### try: .. except C as n: return n.f -/
def xTryA (cn : String) (i : Nat) (sb : SS) : SS := fun l m => match sb l m with
  | .ex c [y] l' m' => if c = cn ∧ i < l'.length then .rt y m' else .bad
  | .ex _ _ _ _ => .bad
  | r => r
section
variable {X : Cx} {W : XM} {body : List Stmt} {sb : SS} {x n fn : Str} {cn : String} {C : Addr} {i : Nat} {np p1 p2 p3 pos pos' : Pos}
theorem x_tryA (i : Nat) (hs : X.stack = X.env :: X.outer) (hf : X.env.frame = some X.env.locals) (hN : X.N.Nodup) (hi : X.N[i]? = some n) (hln : X.env.kindOf n = some .local) (T : ExcT X.prog X.w X.K X.mg X.base x C fn) (hg : Gl X x)
    (hb : ∀ (Wx : WX) (pn : List (Addr × Obj)) (xe : Value → Shared → Prop), Takes (X.tr pn xe) Wx → PassesOwn (model X.prog X.w) X.A X.env xe → QSs (X.tr pn xe) (WTx X.K C cn fn Wx) body sb)
    (hv : Vis X.env.scope n) (hab : attributeBase (.Name n p1) fn X.env (eval (.Name n p1) X.env) = eval (.Name n p1) X.env) (hdb : (x == ("__debug__" : Str)) = false := by decide) (hdn : (n == ("__debug__" : Str)) = false := by decide) (hcd : (n == ("__classdict__" : Str)) = false := by decide) :
    QS X W (.Try body [.ExceptHandler (some (.Name x np)) (some n) [.Return (some (.Attribute (.Name n p1) fn p2)) p3] pos'] [] [] pos) (xTryA cn i sb) :=
  ⟨ps_imp (ps_try_as (tb := fun Wx => RdS X.K (WTx X.K C cn fn Wx) sb) hs hf hN hi hln ⟨hg, hdb, .inl T.gC⟩ (L2.takes0 (X := X)) (fun Wx pn xe tk po => (hb Wx pn xe tk po).ps)
    (fun a oe cls d pn hz hff => pss_one (ps_ret (pe_xf T.xf T.no hz hff (pe_var (i := i) hi hv hdn hcd) hab)))) fun D σ H ⟨φ, l, m, h1, h2, h3⟩ => by
    refine ⟨φ, l, m, h1, h2, ?_⟩
    unfold xTryA at h3
    cases hsb : sb l m with
    | nx l' m' => rw [hsb] at h3; exact h3
    | rt y m' => rw [hsb] at h3; exact h3
    | bk l' m' => rw [hsb] at h3; exact h3
    | ct l' m' => rw [hsb] at h3; exact h3
    | bad => rw [hsb] at h3; exact h3
    | ex c fs l' m' =>
      rw [hsb] at h3
      match fs, h3 with
      | [], h3 => exact h3.elim
      | [y], h3 =>
        dsimp only at h3
        by_cases hz : c = cn ∧ i < l'.length
        · rw [if_pos hz] at h3
          intro φ1 σ1 H1 x1 a1 b1
          refine ⟨y, hz.1, rfl, fun φ2 H2 d v x2 a2 b2 r2 e2 => ⟨true, T.te, fun _ a na => ?_, fun z => by cases z⟩⟩
          have hil : i < σ1.length := by rw [← b2.1]; exact hz.2
          exact ⟨.ref a, List.getElem?_set_self hil, rfl, rfl, d, [(fn, v)], v, rfl, e2, by simp [List.lookup], h3 φ2 H2 v (x1.trans x2) a2 r2⟩
        · rw [if_neg hz] at h3; exact h3.elim
      | _ :: _ :: _, h3 => exact h3.elim⟩
end
end SM

set_option Elab.async false
set_option linter.all false
set_option maxRecDepth 100000
set_option maxHeartbeats 2000000
/-! ## enumerate(tuple) -/
namespace PySem
open Sem (wp)
theorem meets_enT {v : Value} {o : Obj} {H : Heap → Prop} (B : Begins v o H) :
    Meets (Builtin.«enumerate.__new__» ⟨[.type "enumerate", v], []⟩) (fun _ R s => H s.heap ∧
      R (.ok (.ret (.ref (s.heap.push o).objs.size))) { s with heap := (s.heap.push o).push { cls := .type "enumerate", data := .fields #[.none, .bool false, .ref s.heap.objs.size, rawInt 0, .none, .none] } }) :=
  .of_wp fun prog w A R s h => by
    obtain ⟨hp, g, d, tk, os⟩ := s; obtain ⟨h1, h⟩ := h
    have hsub := sub_enumerate
    have q1 : ∀ {A' : Around} {E : Value → Shared → Prop} {Q : Value → Shared → Prop}, Q (.ref hp.objs.size) ⟨hp.push o, g, d, tk, os⟩ → wpAny (model prog w) A' (pyIter v) Q E ⟨hp, g, d, tk, os⟩ :=
      fun q => B.iter prog w _ _ ⟨hp, g, d, tk, os⟩ _ h1 q
    wp_walk using q1
    refine wpAny_stack_any fun st => wpAny_pure ?_
    split
    · rename_i c _ _ _ _ _
      cases (c == Value.type "enumerate")
      · wp_walk using q1
        exact ⟨_, rfl, h⟩
      · wp_walk using q1
        exact ⟨_, rfl, h⟩
    · wp_walk using q1
      exact ⟨_, rfl, h⟩
theorem call_enT {prog : Program} {w : World} {A : Around} {E : Value → Shared → Prop} {s : Shared} {v : Value} {o : Obj} {H : Heap → Prop} {Q : Value → Shared → Prop} (B : Begins v o H) (h1 : H s.heap)
    (h : ∀ h', IsEnum h' (s.heap.objs.size + 1) s.heap.objs.size 0 .none → h'.get? s.heap.objs.size = some o → h'.objs.size = s.heap.objs.size + 2 →
      (∀ b o, s.heap.get? b = some o → h'.get? b = some o) → Q (.ref (s.heap.objs.size + 1)) { s with heap := h' }) :
    wpAny (model prog w) A (call (.type "enumerate") [v]) Q E s := by
  refine callType_new F.called_enumerate (by decide) (F.typeCall_enumerate_1 _) (F.newCall_enumerate_1 _) (fun obj => F.args_object_init_2 obj _) F.entry_enumerate_new (meets_enT B) ⟨h1, ?_⟩
  have hz : (s.heap.push o).objs.size = s.heap.objs.size + 1 := Heap.size_push ..
  show _ ∧ _
  rw [hz]
  have he : IsEnum ((s.heap.push o).push { cls := .type "enumerate", data := .fields #[.none, .bool false, .ref s.heap.objs.size, rawInt 0, .none, .none] }) (s.heap.objs.size + 1) s.heap.objs.size 0 .none := by
    have := Heap.get?_push_size (s.heap.push o) (o := { cls := .type "enumerate", data := .fields #[.none, .bool false, .ref s.heap.objs.size, rawInt 0, .none, .none] }) rfl
    rw [hz] at this; exact this
  refine ⟨⟨_, he, rfl⟩, h _ he (Heap.get?_push_of_some _ (Heap.get?_push_size _ B.free)) (by rw [Heap.size_push, hz]) fun b o x => Heap.get?_push_of_some _ (Heap.get?_push_of_some _ x)⟩
end PySem
namespace SM
open PySem PySem.Spec PyProof.Rows L2
def ItE (K : PySem.W.Frag) (a : Addr) : It :=
  ⟨fun i H => ∃ (xs : List V) (x : V), SqT K H a xs ∧ xs[i]? = some x, fun i H v H' => ∃ T x, v = .ref T ∧ H T = none ∧ H' = upd H T (.tup [.int (i : Nat), x]) ∧ ∀ xs, SqT K H a xs → xs[i]? = some x, fun i H => ∃ xs : List V, SqT K H a xs ∧ xs.length ≤ i⟩
theorem turn_enT {P : Program} {w : World} {K : PySem.W.Frag} {elts : List Expr} {kk : Nat} {tpos : Pos} (a e it : Addr) :
    Turn P w K (.Tuple elts kk tpos) (ItE K a) [e, it] e (fun i h => (∃ old, IsEnum h e it ((i : Nat) : Int) old) ∧ h.IsTupleIter it a i ∧ e ≠ it ∧ e ≠ a ∧ it ≠ a) where
  mem := by simp
  obj := fun i h st b hb => by
    obtain ⟨⟨old, he⟩, ⟨o, ho, hc, hd⟩, _⟩ := st
    have e' : b = e ∨ b = it := by simpa using hb
    rcases e' with z | z
    · rw [z]; exact ⟨_, he, fun v q => nomatch q⟩
    · rw [z]; exact ⟨o, ho, fun v q => by rw [hd] at q; cases q⟩
  keep := fun i h h' st k => let ⟨⟨old, he⟩, hi, hne⟩ := st; ⟨⟨old, k e (by simp) _ he⟩, hi.at fun o q => k it (by simp) o q, hne⟩
  item := by
    intro X hP hw hK hc i pins s σ H E I hf st hg
    subst hP hw hK
    obtain ⟨⟨old, he⟩, hit, hne, hea, hia⟩ := st
    obtain ⟨xs, x, hq, hx⟩ := hg
    obtain ⟨its, rv, p, hz⟩ := I.tuple hq
    obtain ⟨u, hu, ru⟩ := rv.get hx
    have hel : e < s.heap.objs.size := Heap.lt_size he
    have hil : it < s.heap.objs.size := by obtain ⟨_, q, _⟩ := hit; exact Heap.lt_size q
    have p' : s.heap.IsTuple a its.toArray := p
    have hh : X.A.in1.handled = none := I.ok.hd hc
    have hlt : i < its.toArray.size := by
      have := (List.getElem?_eq_some_iff.mp hu).1
      simpa using this
    refine wpAny_pyNext_enum_itemD (Draws.tuple hh it a (Ne.symm hia) its.toArray) he ⟨hit, p'⟩ hlt hne (by simp; exact ⟨hne, hea⟩) fun y h' tk hy ho hst' hT hsz hk => ?_
    have ey : y = u := by
      have hy : its.toArray[i]? = some y := hy
      rw [List.getElem?_toArray, hu] at hy
      exact (Option.some.inj hy).symm
    subst ey
    refine ⟨_, rfl, wpAny_letOwnedTupleGo_enum (s := { s with heap := h', toks := tk + 1 }) ho fun h'' he' sb => ?_⟩
    have hT2 : h''.get? s.heap.objs.size = some { cls := .type "tuple", data := .seq #[.int i tk, y] } := (sb.2 _ (Nat.ne_of_gt hel)).trans hT
    have new : ObjOk X.prog X.w (upd H s.heap.objs.size (.tup [.int (i : Nat), x])) h'' s.heap.objs.size (.tup [.int (i : Nat), x]) :=
      ⟨by show 2 ≤ sizeLine; decide, [.int i tk, y], .cons ⟨_, rfl⟩ (.cons ru .nil), ⟨_, hT2, rfl, _, rfl⟩⟩
    have I1 : Inv X pins σ (upd H s.heap.objs.size (.tup [.int (i : Nat), x])) { s with heap := h'', toks := tk + 1 } :=
      I.turnedNew (ch := [e, it]) (fun b ob hb q => (sb.2 b (fun z => hb (by simp [z]))).trans (hk b ob (fun z => hb (by simp [z])) (fun z => hb (by simp [z])) q)) hf (Nat.le_refl _) new
    refine ⟨.ref s.heap.objs.size, _, I1, rfl, ⟨_, x, rfl, I.hok.fresh (Nat.le_refl _), rfl, fun ys hy => by rw [I.tuple_inj hy hq]; exact hx⟩, ⟨⟨y, ?_⟩, hst'.1.at fun o q => (sb.2 it (Ne.symm hne)).trans q, hne, hea, hia⟩, fun b hb => ?_⟩
    · have e1 : ((i + 1 : Nat) : Int) = (i : Int) + 1 := by omega
      rw [e1]; exact he'
    · have hb' : b < s.heap.objs.size := by
        have e' : b = e ∨ b = it := by simpa using hb
        rcases e' with z | z
        · rw [z]; exact hel
        · rw [z]; exact hil
      rw [upd_ne (Nat.ne_of_lt hb')]
      exact (hf b hb).1
  done := by
    intro X hP hw hK hc i pins s σ H E I hf st hg
    subst hP hw hK
    obtain ⟨⟨old, he⟩, hit, hne, hea, hia⟩ := st
    obtain ⟨xs, hq, hx⟩ := hg
    obtain ⟨its, rv, p, hz⟩ := I.tuple hq
    obtain ⟨f0, f1, f2, f3, f4, f5⟩ := hf it (by simp)
    have hl := rv.length
    have p' : s.heap.IsTuple a its.toArray := p
    have hh : X.A.in1.handled = none := I.ok.hd hc
    have D : Draws X.prog X.w X.A.in1 it [it, a] i (fun j v => its.toArray[j]? = some v) (fun j h => h.IsTupleIter it a j ∧ h.IsTuple a its.toArray ∧ i ≤ j) :=
      { live := fun _ _ st => let ⟨o, ho, _⟩ := st.1; ⟨o, ho⟩
        frame := fun _ _ _ st hk => ⟨st.1.at fun o e => hk it (by simp) o e, st.2.1.at fun o e => hk a (by simp) o e, st.2.2⟩
        item := fun j s Q E hi st hQ => absurd st.2.2 (by omega)
        done := fun s Q E st hE => wpAny_nextOf_tuple_end hh st.1 st.2.1 (by simp; omega) hE }
    exact wpAny_pyNext_enum_endD D he ⟨hit, p', Nat.le_refl _⟩ fun h' eb => ⟨rfl, I.turned (t' := s.toks) (fun b o hb q => eb b o hb q) f0 f1 f3 f4 f5⟩
  self := fun A i s Q E st h => let ⟨⟨_, he⟩, _⟩ := st; wpAny_pyIter_enum he h
def iEnT (K : PySem.W.Frag) (ta : TA) : TI := fun σ H R => ta σ H fun vs H1 => ∃ a xs, vs = [.ref a] ∧ SqT K H1 a xs ∧ R (ItE K a) H1
theorem pi_enT {X : Cx} {e : Expr} {ta : TA} {p pos tpos : Pos} {elts : List Expr} {kk : Nat} (hg : Gl X "enumerate") (hm : X.mg "enumerate" = none) (ha : PA X [e] ta) (hs : starEach [e] X.env = [(false, eval e X.env)] := by rfl) :
    PI X (.Tuple elts kk tpos) (.Call (.Name "enumerate" p) [e] [] pos) (iEnT X.K ta) := by
  refine ⟨fun pins s σ H R I h => ?_⟩
  refine Call_ (ld_blt I hg hm boot_enumerate (PyProof.Rows.callWith_type1 (thn (ha.run pos pins s σ H _ I h) fun us s1 ⟨vs, H1, I1, r1, q1⟩ => ?_) hs rfl))
  obtain ⟨a, xs, ex, hq, q⟩ := q1
  subst ex
  cases r1 with
  | cons r rr =>
    cases rr
    cases r
    obtain ⟨its, rv, p', hz⟩ := I1.tuple hq
    have ht : s1.heap.IsTuple a its.toArray := p'
    have hal : a < s1.heap.objs.size := by obtain ⟨o, ho, _⟩ := ht; exact Heap.lt_size ho
    refine call_enT (begins_tuple a its.toArray) ht fun h' he hit hsz hk => wpAny_pyIter_enum he ?_
    have I2 : Inv X pins σ H1 { s1 with heap := h' } := I1.kept (t' := s1.toks) hk
    refine ⟨s1.heap.objs.size + 1, [s1.heap.objs.size + 1, s1.heap.objs.size], _, _, H1, rfl, I2, turn_enT a (s1.heap.objs.size + 1) s1.heap.objs.size, ⟨⟨.none, he⟩, ⟨_, hit, rfl, rfl⟩, Nat.succ_ne_self _, Nat.ne_of_gt (Nat.lt_succ_of_lt hal), Nat.ne_of_gt hal⟩, fun b hb => ?_, q⟩
    have e' : b = s1.heap.objs.size + 1 ∨ b = s1.heap.objs.size := by simpa using hb
    have hle : s1.heap.objs.size ≤ b := by
      rcases e' with z | z
      · rw [z]; exact Nat.le_add_right _ _
      · rw [z]; exact Nat.le_refl _
    exact I1.fpOk hle (I1.hok.fresh hle)
theorem walk_enT {K : PySem.W.Frag} {a : Addr} {xs : List V} : Walk (ItE K a) xs.length (fun H => SqT K H a xs) (fun i H v H' => ∃ T x, v = .ref T ∧ H T = none ∧ H' = upd H T (.tup [.int (i : Nat), x]) ∧ xs[i]? = some x) := by
  refine ⟨fun i _ hi q => ⟨xs, xs[i], q, by simp [hi]⟩, fun _ q => ⟨xs, q, Nat.le_refl _⟩, fun i H v H' _ q y => ?_⟩
  obtain ⟨T, x, h1, h2, h3, h4⟩ := y
  exact ⟨T, x, h1, h2, h3, h4 xs q⟩
/-- for i, x in enumerate(a tuple): the items are pairs -/
def enumI (xs : List PV) : List PV := (List.range xs.length).map fun i => .tup [.int (i : Nat), xs.getD i .non]
theorem enumI_len (xs : List PV) : (enumI xs).length = xs.length := by simp [enumI]
theorem enumI_get {xs : List PV} {i : Nat} {x : PV} (h : xs[i]? = some x) : (enumI xs)[i]? = some (.tup [.int (i : Nat), x]) := by
  have hl := (List.getElem?_eq_some_iff.mp h).1
  unfold enumI
  rw [List.getElem?_map, List.getElem?_range hl]
  simp [List.getD_eq_getElem?_getD, h]
noncomputable def xForE (se : SE) (g : STg) (body : SS) : SS := fun l m => R.then l (se l m) fun x m1 => match x with
  | .tup xs => forL ⟨enumI xs, none⟩ g body (enumI xs) l m1
  | _ => .bad
section
variable {X : Cx} {W : XM} {e : Expr} {body : List Stmt} {g : STg} {sb : SS} {se : SE} {elts : List Expr} {kk : Nat} {tpos p cpos pos : Pos}
theorem x_forE (hp : PassesOwn (model X.prog X.w) X.A X.env X.xe) (hc : X.calm = true) (hgE : Gl X "enumerate") (hm : X.mg "enumerate" = none) (he : QE X W e se) (hg : QG X (.Tuple elts kk tpos) g) (hb : QSs X W body sb)
    (hs1 : starEach [e] X.env = [(false, eval e X.env)] := by rfl) (hs : ∀ x, foldedSetIterable (.Call (.Name "enumerate" p) [e] [] cpos) X.env x = pure x := by intro _; rfl) :
    QS X W (.For (.Tuple elts kk tpos) (.Call (.Name "enumerate" p) [e] [] cpos) body [] pos) (xForE se g sb) := ⟨ps_imp (ps_for hp hc (pi_enT hgE hm (pa_cons he.pe pa_nil (by rw [hs1] <;> rfl)) hs1) hg.pg hb.ps hs) fun D σ H ⟨φ, l, m, h1, h2, h3⟩ => by
  refine ⟨φ, l, m, h1, h2, (PostS.then (rel := rV X.K) h2 h3).mono ?_⟩
  rintro v H' ⟨φ', x, m', x0, a0, b0, r0, d0⟩
  match x, r0, d0 with
  | .tup xs, r0, d0 =>
    obtain ⟨a, vs, rfl, q1, q2⟩ := r0
    refine ⟨a, vs, rfl, q1, ?_⟩
    have hlen : vs.length = xs.length := q2.length
    have d0 : PostS X.K W φ' H' (forL ⟨enumI xs, none⟩ g sb (enumI xs) l m') D := d0
    refine for_it (walk_enT (xs := vs)) (fun i σ2 H2 => ∃ φ2 l2 m2, Ext X.K φ' H' φ2 H2 ∧ RH X.K H2 φ2 m2 ∧ RL X.K H2 φ2 l2 σ2 ∧ PostS X.K W φ2 H2 (forL ⟨enumI xs, none⟩ g sb ((enumI xs).drop i) l2 m2) D) ⟨φ', l, m', Ext.refl, a0, b0, d0⟩ ?_ ?_ ?_
    · rintro i σ2 H2 hi ⟨φ2, l2, m2, x2, a2, b2, c2⟩
      exact x2.tup _ _ q1
    · rintro i v σ2 H2 H3 hi ⟨φ2, l2, m2, x2, a2, b2, c2⟩ ⟨T, y, rfl, hT, rfl, hy⟩
      obtain ⟨px, e1⟩ : ∃ px, xs[i]? = some px := ⟨xs[i]'(by omega), List.getElem?_eq_getElem (by omega)⟩
      obtain ⟨y', e2, ry⟩ := q2.get e1
      rw [hy] at e2
      cases e2
      obtain ⟨f1, f2, f3⟩ := a2.newT (xs := [.int (i : Nat), px]) (vs := [.int (i : Nat), y]) hT ⟨_, _, rfl, rfl, _, _, rfl, RV.ext x2 ry, rfl⟩
      have hi' : i < (enumI xs).length := by rw [enumI_len]; omega
      rw [List.drop_eq_getElem_cons hi'] at c2
      have eg : (enumI xs)[i] = .tup [.int (i : Nat), px] := by
        have := enumI_get e1
        rw [List.getElem?_eq_getElem hi'] at this
        exact Option.some.inj this
      rw [eg] at c2
      unfold forL at c2
      rw [if_pos (show ITM.ok ⟨enumI xs, none⟩ m2 from trivial)] at c2
      cases hgx : g (.tup [.int (i : Nat), px]) l2 m2 with
      | none => rw [hgx] at c2; exact c2.elim
      | some p =>
        obtain ⟨l3, m3⟩ := p
        rw [hgx] at c2
        dsimp only at c2
        refine ⟨φ2, l2, m2, _, f2, b2.ext f1, f3, l3, m3, hgx, fun φ3 σ3 H3 x3 a3 b3 => ⟨φ3, l3, m3, a3, b3, ?_⟩⟩
        have c3 := PostS.ext (f1.trans x3) c2
        cases hb : sb l3 m3 with
        | nx l4 m4 =>
          rw [hb] at c3
          exact fun φ4 σ4 H4 x4 a4 b4 => ⟨φ4, l4, m4, ((x2.trans f1).trans x3).trans x4, a4, b4, PostS.ext x4 c3⟩
        | ct l4 m4 =>
          rw [hb] at c3
          exact fun φ4 σ4 H4 x4 a4 b4 => ⟨φ4, l4, m4, ((x2.trans f1).trans x3).trans x4, a4, b4, PostS.ext x4 c3⟩
        | bk l4 m4 => rw [hb] at c3; exact c3
        | rt x m4 => rw [hb] at c3; exact c3
        | ex c fs l4 m4 => rw [hb] at c3; exact c3
        | bad => rw [hb] at c3; exact c3
    · rintro σ2 H2 ⟨φ2, l2, m2, x2, a2, b2, c2⟩
      rw [List.drop_of_length_le (by rw [enumI_len]; omega)] at c2
      unfold forL at c2
      rw [if_pos (show ITM.ok ⟨enumI xs, none⟩ m2 from trivial)] at c2
      exact c2 φ2 σ2 H2 Ext.refl a2 b2⟩
end
end SM

set_option Elab.async false
set_option linter.all false
set_option maxRecDepth 100000
set_option maxHeartbeats 2000000
/-! SM15: a def that may raise, called where it doesn't; a try whose suite returns what a small def says of the exception's field. -/
namespace SM
open PySem PySem.Spec PyProof.Rows L2
/-! ## flat equality, wants no room -/
def eqS : PV → PV → MH → OR := fun x y m => (eqF x y).map fun b => (.bl b, m)
section
variable {X : Cx}
theorem o_eqS : OpQ X (compareOp .Eq) eqS := .of_eq fun v w H Q φ m x y h1 h2 h3 h4 => by
  unfold eqS at h4
  cases hf : eqF x y with
  | some b =>
    rw [hf] at h4
    obtain ⟨s1, s2⟩ := eqF_scal hf h2 h3
    exact ⟨_, op_eq, s1, by rw [s2]; exact h4.same h1 rfl⟩
  | none => rw [hf] at h4; exact h4.not.elim
end
/-! ## a call of a def that raises elsewhere, not here -/
section
variable {X : Cx} {W : XM} {e : Expr} {es : List Expr} {ses : SA} {x fn : Str} {cn : String} {C : Addr} {p pos : Pos} {n k j : Nat} {f : FS}
theorem q_callX0 (Cl : CalX X.prog X.w X.K X.mg X.base C cn fn x n k f) (hr : Room j X.A) (hk : k ≤ j) (hg : Gl X x) (ha : QA X W (e :: es) ses) (hdb : (x == ("__debug__" : Str)) = false := by decide)
    (he : starEach (e :: es) X.env = (false, eval e X.env) :: starEach es X.env := by rfl) (hpl : (backTo pos (starEach es X.env)).any (·.1) = false := by rfl) : QE X W (.Call (.Name x p) (e :: es) [] pos) (sCallU n f ses) := by
  obtain ⟨fa, fd, ps, hps, F, hm, hkp, hb⟩ := Cl
  refine ⟨pe_imp (pe_callS (E := fun _ => E0) F (hr.mono hk) hg hm hkp hb (fun σ pins H s e s' I h => passL pins σ H s e s' I h) ha.pa hdb he hpl) fun σ H Q q => (oneA q).mono fun vs H1 ⟨φ, m, xs, l, c1, c2, c3⟩ => ?_⟩
  by_cases hz : xs.length = n
  · rw [if_pos hz] at c3
    refine ⟨by rw [c2.length]; exact hz, φ, m, xs, c1, c2, ?_⟩
    cases hf : f xs m with
    | ok y m' => rw [hf] at c3; exact c3
    | ex c fs m' => rw [hf] at c3; exact c3.elim
    | bad => rw [hf] at c3; exact c3.elim
  · rw [if_neg hz] at c3
    exact c3.elim
end
/-! ## a small def (it calls nothing, it raises nothing), called while an exception is handled -/
structure Hotf (P : Program) (w : World) (K : PySem.W.Frag) (mg : Str → Option Value) (base : Heap) (x : Str) (n : Nat) (f : FS) : Prop where
  ex : ∃ (qual : Str) (st : Stmt) (fa : Addr) (fd : FuncData) (N ps : List Str) (b : SS), Fun K x qual st fa fd ∧ FnScope N ps (defScope st) ∧ ps.length = n ∧ f = fnS n N.length b ∧ mg x = some (.ref fa) ∧ Binds K fd ps [] ∧
    ∀ (cdv : Value) (A : Around) (outer : List Env) (s : Shared) (H : Hp) (E : XK) (q : Addr × Obj), QSs (L2H.cxH CX0 P w K mg base N qual (defScope st) fa cdv A outer s H E q).nox W0 (defBody st) b
section
variable {X : Cx} {x : Str} {n : Nat} {f : FS} {e : Expr} {es : List Expr} {p pos : Pos} {t : TA}
theorem pe_hot (F : Hotf X.prog X.w X.K X.mg X.base x n f) {q : Addr × Obj} (hq : q ∈ X.pn) (hd : X.A.depth < recursionLimit) (hg : Gl X x) (ha : PA X (e :: es) t) (hdb : (x == ("__debug__" : Str)) = false := by decide)
    (he : starEach (e :: es) X.env = (false, eval e X.env) :: starEach es X.env := by rfl) (hpl : (backTo pos (starEach es X.env)).any (·.1) = false := by rfl) : PE X (.Call (.Name x p) (e :: es) [] pos) (tCallS (SpQ X.K n f) (fun _ => E0) t) := by
  obtain ⟨qual, st, fa, fd, N, ps, b, G, S, hps, hfs, hm, hbd, hb⟩ := F.ex
  refine ⟨fun pins s σ H Q I h => ?_⟩
  refine wpAny_Call_Name_kw (ld_glob I hg hm ?_ hdb)
  refine PySem.W.callWith_K (h₀ := X.base) I.ok.mod.kin G.kp (thn (ha.run pos pins s σ H _ I h) fun us s1 ⟨vs, H1, I1, r, z⟩ => ⟨I1.kIn, ?_⟩) he hpl
  obtain ⟨hl, φ, m, xs, z1, z2, z3⟩ := z
  obtain ⟨oc, od, kV, doc, pm, an, cdv, ct, osl, rfl, lk, hcd⟩ := G.ex
  have hlv : vs.length = ps.length := hl.trans hps.symm
  have hlu : us.length = ps.length := by rw [← r.length]; exact hlv
  have bd := hbd s1 us I1.kIn (by rw [List.append_nil]; exact hlu)
  rw [List.append_nil] at bd
  have P1 := I1.pin q (List.mem_append_left _ hq)
  have hpin : L2H.PinOk X.stack H1 s1 q := ⟨P1.1, P1.2.1, fun hmm => (List.mem_cons.mp (I1.stkSub q.1 hmm)).elim P1.2.2.1 P1.2.2.2.1, P1.2.2.2.2⟩
  have e0 := I1.env0
  have KX : X.K.In s1.heap := e0.mod.kin.keeps fun b o e => (e0.bs b o e).1
  have lim : s1.heap.NoLimit := e0.mod.nolimit.keeps fun b o e => (e0.bs b o e).1
  have hkind : ∀ y ∈ ps.zip us, (defScope st).names.lookup y.1 = some .local ∨ ((defScope st).names.lookup y.1 = some .cell ∧ ((cellsFrom (s1.heap.objs.size + 1) (defScope st).names []).lookup y.1).isSome = true) := fun y hy => by
    rcases S.par y.1 (List.of_mem_zip hy).1 with k | k
    · exact .inl k
    · exact .inr ⟨k, PySem.W.cellsFrom_some _ _ _ (.inl k)⟩
  have main : codeAny (model X.prog X.w) X.A (.call (.ref fa) ⟨us, []⟩) (CR CX0 X.stack X.prog X.w H1 s1 Q E0) s1 := by
    refine codeAny_call_function hd (KX _ _ lk) rfl S.co S.gen rfl (PySem.W.codeRec_of KX hcd) (bd _ _ _ _ ?_)
    refine wpAny_newFunctionEnv_cells S.kind hkind fun env he s2 y => ?_
    subst he
    refine ⟨lim.keeps y.toInCall.keep, codeAny_func ?_⟩
    have J := L2H.inv_startH (CX := CX0) (E := E0) (mg := X.mg) (base := X.base) (qual := qual) S hpin e0 hlv r y
    have hle : ps.length ≤ N.length := by
      have := congrArg List.length S.pre
      rw [List.length_take] at this
      omega
    have hxl : xs.length = ps.length := by rw [← z2.length]; exact hlv
    have bod := (hb cdv X.A X.stack s1 H1 E0 q).ps.nox
    rw [hfs] at z3
    unfold fnS at z3
    rw [if_pos (hxl.trans hps)] at z3
    refine wpAny_mono (bod.run [] s2 (L2.start N vs) H1 { nx := fun _ H' => Q .non H', rt := Q } J ⟨φ, _, m, z1, rl_start hle z2 hxl, ?_⟩) (fun fl s' hs => ?_) fun e s' hs => hs
    · rw [← hps] at z3
      cases hbb : b (xs.map some ++ List.replicate (N.length - ps.length) none) m with
      | nx l m' => rw [hbb] at z3; exact fun φ' σ' H' x a b => z3 φ' H' _ x a rfl
      | rt y m' => rw [hbb] at z3; exact z3
      | bk l m' => rw [hbb] at z3; exact z3.elim
      | ct l m' => rw [hbb] at z3; exact z3.elim
      | ex c fs l m' => rw [hbb] at z3; exact z3.elim
      | bad => rw [hbb] at z3; exact z3.elim
    · cases fl with
      | ret u =>
        obtain ⟨v, σ', H', J', rv, k⟩ := hs
        exact ⟨v, H', J'.os, J'.bare, J'.base, J'.hok, rv, k⟩
      | next =>
        obtain ⟨σ', H', J', k⟩ := hs
        exact ⟨.non, H', J'.os, J'.bare, J'.base, J'.hok, rfl, k⟩
      | brk =>
        obtain ⟨_, _, _, k⟩ := hs
        exact k.elim
      | cont =>
        obtain ⟨_, _, _, k⟩ := hs
        exact k.elim
  refine wpAny_call (codeAny_mono main fun r s' hr => ?_)
  cases r with
  | error e => exact False.elim hr
  | ok fl =>
    cases fl with
    | ret u => exact I1.after hr
    | next => exact False.elim hr
    | brk => exact False.elim hr
    | cont => exact False.elim hr
end
/-! ## try: .. except C as n: return g(n.f, y) -/
def xTryB (cn : String) (i j : Nat) (g : FS) (sb : SS) : SS := fun l m => match sb l m with
  | .ex c [y] l' m' => if c = cn ∧ i < l'.length ∧ i ≠ j then (match l'[j]? with
    | some (some z) => match g [y, z] m' with
      | .ok u m2 => .rt u m2
      | _ => .bad
    | _ => .bad) else .bad
  | .ex _ _ _ _ => .bad
  | r => r
section
variable {X : Cx} {W : XM} {body : List Stmt} {sb : SS} {x n fn xg y : Str} {cn : String} {C : Addr} {i j k : Nat} {g : FS} {np p1 p2 p3 p4 p5 p6 pos pos' : Pos}
theorem x_tryB (i j : Nat) (hs : X.stack = X.env :: X.outer) (hf : X.env.frame = some X.env.locals) (hN : X.N.Nodup) (hi : X.N[i]? = some n) (hln : X.env.kindOf n = some .local) (hj : X.N[j]? = some y) (T : ExcT X.prog X.w X.K X.mg X.base x C fn) (hg : Gl X x) (hr : Room k X.A) (G : Hotf X.prog X.w X.K X.mg X.base xg 2 g) (hgg : Gl X xg)
    (hb : ∀ (Wx : WX) (pn : List (Addr × Obj)) (xe : Value → Shared → Prop), Takes (X.tr pn xe) Wx → PassesOwn (model X.prog X.w) X.A X.env xe → QSs (X.tr pn xe) (WTx X.K C cn fn Wx) body sb)
    (hv : Vis X.env.scope n) (hvj : Vis X.env.scope y) (hab : attributeBase (.Name n p1) fn X.env (eval (.Name n p1) X.env) = eval (.Name n p1) X.env) (hdb : (x == ("__debug__" : Str)) = false := by decide) (hdn : (n == ("__debug__" : Str)) = false := by decide) (hcd : (n == ("__classdict__" : Str)) = false := by decide)
    (hdy : (y == ("__debug__" : Str)) = false := by decide) (hcy : (y == ("__classdict__" : Str)) = false := by decide) (hdg : (xg == ("__debug__" : Str)) = false := by decide)
    (he : ∀ a pn, starEach [.Attribute (.Name n p1) fn p2, .Name y p4] (X.suite a pn).env = (false, eval (.Attribute (.Name n p1) fn p2) (X.suite a pn).env) :: starEach [.Name y p4] (X.suite a pn).env := by intros; rfl)
    (he2 : ∀ a pn, starEach [.Name y p4] (X.suite a pn).env = (false, eval (.Name y p4) (X.suite a pn).env) :: starEach [] (X.suite a pn).env := by intros; rfl)
    (hpl : ∀ a pn, (backTo p5 (starEach [.Name y p4] (X.suite a pn).env)).any (·.1) = false := by intros; rfl) :
    QS X W (.Try body [.ExceptHandler (some (.Name x np)) (some n) [.Return (some (.Call (.Name xg p6) [.Attribute (.Name n p1) fn p2, .Name y p4] [] p5)) p3] pos'] [] [] pos) (xTryB cn i j g sb) :=
  ⟨ps_imp (ps_try_as (tb := fun Wx => RdS X.K (WTx X.K C cn fn Wx) sb) (ts := fun a cls d D σ H => tCallS (SpQ X.K 2 g) (fun _ => E0) (tCons (tXf a cls d C fn (tVar i)) (tCons (tVar j) tNil)) σ H D.rt) hs hf hN hi hln ⟨hg, hdb, .inl T.gC⟩ (L2.takes0 (X := X)) (fun Wx pn xe tk po => (hb Wx pn xe tk po).ps)
    (fun a oe cls d pn hz hff => pss_one (ps_ret (pe_hot (X := X.suite a ((a, oe) :: pn)) G (q := (a, oe)) List.mem_cons_self (show L2H.RoomH k (X.A.mark (some (.ref a))) from ⟨hr.dp, hr.un⟩).depth hgg
      (pa_cons (pe_xf T.xf T.no hz hff (pe_var (i := i) hi hv hdn hcd) hab) (pa_cons (pe_var (i := j) hj hvj hdy hcy) pa_nil (he2 a _)) (he a _)) hdg (he a _) (hpl a _))))) fun D σ H ⟨φ, l, m, h1, h2, h3⟩ => by
    refine ⟨φ, l, m, h1, h2, ?_⟩
    unfold xTryB at h3
    cases hsb : sb l m with
    | nx l' m' => rw [hsb] at h3; exact h3
    | rt y m' => rw [hsb] at h3; exact h3
    | bk l' m' => rw [hsb] at h3; exact h3
    | ct l' m' => rw [hsb] at h3; exact h3
    | bad => rw [hsb] at h3; exact h3
    | ex c fs l' m' =>
      rw [hsb] at h3
      match fs, h3 with
      | [], h3 => exact h3.elim
      | [y], h3 =>
        dsimp only at h3
        by_cases hz : c = cn ∧ i < l'.length ∧ i ≠ j
        · rw [if_pos hz] at h3
          cases hlj : l'[j]? with
          | none => rw [hlj] at h3; exact h3.elim
          | some o =>
          cases o with
          | none => rw [hlj] at h3; exact h3.elim
          | some z =>
          rw [hlj] at h3
          dsimp only at h3
          intro φ1 σ1 H1 x1 a1 b1
          refine ⟨y, hz.1, rfl, fun φ2 H2 d v x2 a2 b2 r2 e2 => ⟨true, T.te, fun _ a na => ?_, fun z => by cases z⟩⟩
          have hil : i < σ1.length := by rw [← b2.1]; exact hz.2.1
          obtain ⟨w, w1, w2⟩ := b2.2 j z hlj
          have w3 : (σ1.set i (some (V.ref a)))[j]? = some (some w) := by rw [List.getElem?_set_ne hz.2.2]; exact w1
          refine ⟨.ref a, List.getElem?_set_self hil, rfl, rfl, d, [(fn, v)], v, rfl, e2, by simp [List.lookup], w, w3, rfl, φ2, m', [y, z], a2, ⟨v, [w], rfl, r2, ⟨w, [], rfl, w2, rfl⟩⟩, ?_⟩
          cases hgu : g [y, z] m' with
          | ok u m2 =>
            rw [hgu] at h3
            exact fun φ3 H3 v3 x3 a3 r3 => h3 φ3 H3 v3 ((x1.trans x2).trans x3) a3 r3
          | ex c2 fs2 m2 => rw [hgu] at h3; exact h3.elim
          | bad => rw [hgu] at h3; exact h3.elim
        · rw [if_neg hz] at h3; exact h3.elim
      | _ :: _ :: _, h3 => exact h3.elim⟩
end
end SM

set_option Elab.async false
set_option linter.all false
set_option maxRecDepth 100000
set_option maxHeartbeats 2000000
/-! SM16: sorted of any alike data; dicts whose keys are pairs. -/
namespace SM
open PySem PySem.Spec PyProof.Rows L2
/-! ## sorted, over the library's values -/
def rSortD (K : PySem.W.Frag) : List V → Hp → VK → Prop := fun vs H Q => ∃ (a : Addr) (zs : List (V × PyData)), vs = [.ref a] ∧ SqL K H a (zs.map (·.1)) ∧ (∀ z ∈ zs, Dp K H z.1 z.2) ∧ PySem.W.AllAlike (zs.map (·.2)) ∧ PySem.W.Sortable (zs.map (·.2)) ∧
  (∀ z ∈ zs, z.2.depth ≤ 60) ∧ ∀ p, H p = none → Q (.ref p) (upd H p (.lst ((zs.mergeSort (PySem.W.dataLe false (·.2))).map (·.1))))
theorem each_vals : ∀ {zs : List (V × PyData)} {us : List Value}, Vals (zs.map (·.1)) us → PySem.W.EachIs (fun u (z : V × PyData) => RelV z.1 u) us zs
  | [], _, h => by cases h; exact .nil
  | z :: zs, _, h => by
    rw [List.map_cons] at h
    cases h with
    | cons h1 h2 => exact .cons h1 (each_vals h2)
theorem vals_each : ∀ {zs : List (V × PyData)} {us : List Value}, PySem.W.EachIs (fun u (z : V × PyData) => RelV z.1 u) us zs → Vals (zs.map (·.1)) us
  | _, _, .nil => .nil
  | _, _, .cons h1 h2 => .cons h1 (vals_each h2)
section
variable {X : Cx}
theorem each_reads {pins : List (Addr × Obj)} {s : Shared} {σ : L2.St} {H : Hp} (I : Inv X pins σ H s) : ∀ {zs : List (V × PyData)} {us : List Value}, Vals (zs.map (·.1)) us → (∀ z ∈ zs, Dp X.K H z.1 z.2) → PySem.W.EachIs (fun u (z : V × PyData) => ∃ as, Reads s.heap u z.2 as) us zs
  | [], _, h, _ => by cases h; exact .nil
  | z :: zs, _, h, d => by
    rw [List.map_cons] at h
    cases h with
    | cons h1 h2 => exact .cons (Dp.reads I _ _ _ (d z List.mem_cons_self) h1) (each_reads I h2 fun z hz => d z (List.mem_cons_of_mem _ hz))
theorem cr_sortD {k : Nat} (hr : Room k X.A) : CallR X (.builtin "sorted") (rSortD X.K) := by
  intro pins s σ H vs us Q I r h
  obtain ⟨a, zs, rfl, hs, hd, hal, hso, hdp, q⟩ := h
  obtain ⟨its, rv, hl, hz⟩ := I.list hs
  obtain ⟨u, rfl, ru⟩ := vals1 r
  obtain rfl : u = Value.ref a := ru
  have hlen : zs.length ≤ sizeLine := by rw [List.length_map] at hz; exact hz
  refine PySem.W.sorted_data (R := fun u (z : V × PyData) => RelV z.1 u) (enc := fun z => z.2) (bs := zs) hl.isList (each_vals rv) (each_reads I rv hd) hal hso hlen (fun z hz => ?_) fun out ho hout => ?_
  · have := hdp z hz
    have := hr.units
    omega
  · obtain ⟨e, he⟩ := PyProof.Rows.sortedAll_at s.heap its (List.toArray out)
    have hv := vals_each hout
    refine ⟨.ref (s.heap.objs.size + 1), upd H (s.heap.objs.size + 1) (.lst ((zs.mergeSort (PySem.W.dataLe false (·.2))).map (·.1))), I.laid (t' := s.toks) (fun b o q => PyProof.Rows.sortedAll_old q) (Nat.le_succ _) ⟨?_, out, e, hv, he⟩, rfl, q _ (I.hok.fresh (Nat.le_succ _))⟩
    rw [List.length_map, List.length_mergeSort]
    exact hlen
end
/-! ## sorted, over the reckoning's values -/
def dOf (m : MH) (x : PV) : PyData := (toD m 8 x).getD .none
noncomputable def sortD (m : MH) (xs : List PV) : List PV := ((xs.map fun x => (x, dOf m x)).mergeSort (PySem.W.dataLe false (·.2))).map (·.1)
structure SortOk (m : MH) (xs : List PV) : Prop where
  rd : ∀ x ∈ xs, ∃ d, toD m 8 x = some d
  al : PySem.W.AllAlike (xs.map (dOf m))
  so : PySem.W.Sortable (xs.map (dOf m))
  dp : ∀ x ∈ xs, (dOf m x).depth ≤ 60
theorem sortD_perm {m : MH} {xs : List PV} : (sortD m xs).Perm xs := by
  have h := (List.mergeSort_perm (xs.map fun x => (x, dOf m x)) (PySem.W.dataLe false (·.2))).map (·.1)
  rw [List.map_map] at h
  have e : (Prod.fst ∘ fun x => (x, dOf m x)) = (id : PV → PV) := rfl
  rw [e, List.map_id] at h
  exact h
theorem sortD_len {m : MH} {xs : List PV} : (sortD m xs).length = xs.length := sortD_perm.length_eq
/-- the sorted values' order -/
theorem sortD_pair {m : MH} {xs : List PV} : (sortD m xs).Pairwise fun a b => PySem.W.dataLe false (dOf m) a b = true := by
  have h := PySem.W.sort_pairwise (PySem.W.sortLe_total (PyProof.Rows.listOrd PyProof.Rows.itemOrd) false fun z : PV × PyData => PySem.W.keyToks z.2) (xs.map fun x => (x, dOf m x))
  unfold sortD
  rw [List.pairwise_map]
  refine List.Pairwise.imp_of_mem ?_ h
  intro a b ha hb h
  have ha := List.mem_map.mp ((List.mergeSort_perm _ _).mem_iff.mp ha)
  have hb := List.mem_map.mp ((List.mergeSort_perm _ _).mem_iff.mp hb)
  obtain ⟨x, _, rfl⟩ := ha
  obtain ⟨y, _, rfl⟩ := hb
  exact h
open Classical in
noncomputable def sortedDv : List PV → MH → OR
  | [.ref n], m => match seq? m n with
    | some xs => if SortOk m xs then some (.ref m.length, m ++ [.lst (sortD m xs)]) else none
    | none => none
  | _, _ => none
section
variable {K : PySem.W.Frag} {H : Hp} {φ : List Addr}
/-- the values together with their data -/
theorem zip_data {m : MH} (h : RH K H φ m) : ∀ {xs : List PV} {ws : List V}, RVs K H φ xs ws → (∀ x ∈ xs, ∃ d, toD m 8 x = some d) →
    ∃ zs : List (V × PyData), zs.map (·.1) = ws ∧ zs.map (·.2) = xs.map (dOf m) ∧ (∀ z ∈ zs, Dp K H z.1 z.2) ∧ PySem.W.EachIs (fun (p : PV × PyData) (z : V × PyData) => RV K H φ p.1 z.1 ∧ p.2 = z.2) (xs.map fun x => (x, dOf m x)) zs
  | [], _, r, _ => by cases r; exact ⟨[], rfl, rfl, (fun z hz => nomatch hz), .nil⟩
  | x :: xs, _, r, d => by
    obtain ⟨v, ws, rfl, r1, r2⟩ := r
    obtain ⟨zs, e1, e2, e3, e4⟩ := zip_data h r2 fun y hy => d y (List.mem_cons_of_mem _ hy)
    obtain ⟨dx, hd⟩ := d x List.mem_cons_self
    have ed : dOf m x = dx := by unfold dOf; rw [hd]; rfl
    refine ⟨(v, dx) :: zs, by rw [List.map_cons, e1], by rw [List.map_cons, List.map_cons, e2, ed], fun z hz => ?_, ?_⟩
    · rcases List.mem_cons.mp hz with rfl | hz
      · exact dp_of h 8 x v dx r1 hd
      · exact e3 z hz
    · rw [List.map_cons, ed]
      exact .cons ⟨r1, rfl⟩ e4
theorem rvs_each : ∀ {ps : List (PV × PyData)} {zs : List (V × PyData)}, PySem.W.EachIs (fun (p : PV × PyData) (z : V × PyData) => RV K H φ p.1 z.1 ∧ p.2 = z.2) ps zs → RVs K H φ (ps.map (·.1)) (zs.map (·.1))
  | _, _, .nil => rfl
  | _, _, .cons h1 h2 => ⟨_, _, rfl, h1.1, rvs_each h2⟩
theorem sort_rvs {m : MH} (h : RH K H φ m) {xs : List PV} {ws : List V} (r : RVs K H φ xs ws) (ok : SortOk m xs) :
    ∃ zs : List (V × PyData), zs.map (·.1) = ws ∧ (∀ z ∈ zs, Dp K H z.1 z.2) ∧ PySem.W.AllAlike (zs.map (·.2)) ∧ PySem.W.Sortable (zs.map (·.2)) ∧ (∀ z ∈ zs, z.2.depth ≤ 60) ∧ RVs K H φ (sortD m xs) ((zs.mergeSort (PySem.W.dataLe false (·.2))).map (·.1)) := by
  obtain ⟨zs, e1, e2, e3, e4⟩ := zip_data h r ok.rd
  refine ⟨zs, e1, e3, by rw [e2]; exact ok.al, by rw [e2]; exact ok.so, fun z hz => ?_, ?_⟩
  · have : z.2 ∈ zs.map (·.2) := List.mem_map.mpr ⟨z, hz, rfl⟩
    rw [e2] at this
    obtain ⟨x, hx, e⟩ := List.mem_map.mp this
    rw [← e]
    exact ok.dp x hx
  · exact rvs_each (PySem.W.sort_each e4 fun p hp q hq => by
      have h1 := e4.zip p hp
      have h2 := e4.zip q hq
      show PySem.W.dataLe false (fun z : PV × PyData => z.2) p.1 q.1 = PySem.W.dataLe false (fun z : V × PyData => z.2) p.2 q.2
      unfold PySem.W.dataLe PySem.W.sortLe
      dsimp only
      rw [h1.2, h2.2])
end
section
variable {X : Cx} {k : Nat}
theorem c_sortedD (hr : Room k X.A) : CrQ X (.builtin "sorted") sortedDv := .of fun vs H Q φ m xs h1 h2 h4 => by
  unfold sortedDv at h4
  split at h4
  · obtain ⟨v, rfl, r⟩ := h2.one
    rename_i n
    cases hq : seq? m n with
    | none => rw [hq] at h4; exact h4.not.elim
    | some xs =>
      rw [hq] at h4
      obtain ⟨a, ws, rfl, q1, q2⟩ := h1.seq r hq
      dsimp only at h4
      by_cases ok : SortOk m xs
      · rw [if_pos ok] at h4
        obtain ⟨zs, e1, e2, e3, e4, e5, e6⟩ := sort_rvs h1 q2 ok
        subst e1
        exact ⟨_, cr_sortD hr, a, zs, rfl, q1, e2, e3, e4, e5, fun p hn => h4.newL h1 e6 p hn⟩
      · rw [if_neg ok] at h4
        exact h4.not.elim
  · exact h4.not.elim
end
/-! ## dicts -/
def putD {κ : Type} [DecidableEq κ] (kvs : List (κ × PV)) (k : κ) (v : PV) : List (κ × PV) :=
  if (kvs.any fun p => decide (p.1 = k)) = true then kvs.map (fun p => if p.1 = k then (p.1, v) else p) else kvs ++ [(k, v)]
def getD {κ : Type} [DecidableEq κ] (kvs : List (κ × PV)) (k : κ) : Option PV := (kvs.find? fun p => decide (p.1 = k)).map (·.2)
theorem encT_inj {a b : List Int} : encT a = encT b ↔ a = b := by
  unfold encT
  constructor
  · intro h
    induction a generalizing b with
    | nil => cases b with
      | nil => rfl
      | cons y b => cases h
    | cons x a ih => cases b with
      | nil => cases h
      | cons y b =>
        rw [List.map_cons, List.map_cons] at h
        injection h with h1 h2
        rw [Sum.inl.inj h1, ih h2]
  · rintro rfl; rfl
theorem encK_inj {a b : Int} : encK a = encK b ↔ a = b := ⟨fun h => Sum.inl.inj h, fun h => by rw [h]⟩
section
variable {K : PySem.W.Frag} {H : Hp} {φ : List Addr} {κ κ' : Type} [DecidableEq κ] [DecidableEq κ'] {enc : κ → κ'}
theorem rks_len : ∀ {kvs : List (κ × PV)} {ws : List (κ' × V)}, RKs K H φ enc kvs ws → ws.length = kvs.length
  | [], _, h => by cases h; rfl
  | p :: r, _, h => by obtain ⟨v, t, rfl, _, h3⟩ := h; simp [rks_len h3]
theorem rks_get (inj : ∀ {a b}, enc a = enc b ↔ a = b) {k : κ} {x : PV} : ∀ {kvs : List (κ × PV)} {ws : List (κ' × V)}, RKs K H φ enc kvs ws → getD kvs k = some x → ∃ v, valV ws (enc k) = some v ∧ RV K H φ x v
  | [], _, h, e => by cases e
  | p :: r, _, h, e => by
    obtain ⟨v, t, rfl, h2, h3⟩ := h
    unfold getD at e
    rw [List.find?_cons] at e
    by_cases c : p.1 = k
    · rw [decide_eq_true c] at e
      cases e
      exact ⟨v, valV_pos (by rw [c]), h2⟩
    · rw [decide_eq_false c] at e
      obtain ⟨w, e1, e2⟩ := rks_get inj (k := k) h3 e
      exact ⟨w, by rw [valV_neg (by intro z; exact c (inj.mp z))]; exact e1, e2⟩
theorem rks_any (inj : ∀ {a b}, enc a = enc b ↔ a = b) {k : κ} : ∀ {kvs : List (κ × PV)} {ws : List (κ' × V)}, RKs K H φ enc kvs ws → (ws.any fun p => decide (p.1 = enc k)) = kvs.any fun p => decide (p.1 = k)
  | [], _, h => by cases h; rfl
  | p :: r, _, h => by
    obtain ⟨v, t, rfl, h2, h3⟩ := h
    rw [List.any_cons, List.any_cons, rks_any inj h3]
    congr 1
    exact decide_eq_decide.mpr inj
theorem rks_rep (inj : ∀ {a b}, enc a = enc b ↔ a = b) {k : κ} {x : PV} {v : V} (q : RV K H φ x v) : ∀ {kvs : List (κ × PV)} {ws : List (κ' × V)}, RKs K H φ enc kvs ws →
    RKs K H φ enc (kvs.map fun p => if p.1 = k then (p.1, x) else p) (ws.map fun p => if p.1 = enc k then (p.1, v) else p)
  | [], _, h => by cases h; rfl
  | p :: r, _, h => by
    obtain ⟨u, t, rfl, h2, h3⟩ := h
    rw [List.map_cons, List.map_cons]
    by_cases c : p.1 = k
    · rw [if_pos c, if_pos (by rw [c])]
      exact ⟨v, _, rfl, q, rks_rep inj q h3⟩
    · rw [if_neg c, if_neg (by intro z; exact c (inj.mp z))]
      exact ⟨u, _, rfl, h2, rks_rep inj q h3⟩
theorem rks_snoc {k : κ} {x : PV} {v : V} (q : RV K H φ x v) : ∀ {kvs : List (κ × PV)} {ws : List (κ' × V)}, RKs K H φ enc kvs ws → RKs K H φ enc (kvs ++ [(k, x)]) (ws ++ [(enc k, v)])
  | [], _, h => by cases h; exact ⟨v, [], rfl, q, rfl⟩
  | p :: r, _, h => by
    obtain ⟨u, t, rfl, h2, h3⟩ := h
    exact ⟨u, _, rfl, h2, rks_snoc q h3⟩
theorem rks_put (inj : ∀ {a b}, enc a = enc b ↔ a = b) {k : κ} {x : PV} {v : V} (q : RV K H φ x v) {kvs : List (κ × PV)} {ws : List (κ' × V)} (h : RKs K H φ enc kvs ws) : RKs K H φ enc (putD kvs k x) (putK ws (enc k) v) := by
  unfold putD putK
  rw [rks_any inj h]
  by_cases c : (kvs.any fun p => decide (p.1 = k)) = true
  · rw [if_pos c, if_pos c]; exact rks_rep inj q h
  · rw [if_neg c, if_neg c]; exact rks_snoc q h
end
def sDNewT : SE := fun _ m => .ok (.ref m.length) (m ++ [.dct []])
def sDNewK : SE := fun _ m => .ok (.ref m.length) (m ++ [.dck []])
/-- d[x, y] = v -/
def xDPutT (sv sd : SE) (sk : SA) : SS := fun l m => R.then l (sv l m) fun v m1 => R.then l (sd l m1) fun x m2 => R.then l (sk l m2) fun ks m3 => match x, ks with
  | .ref n, [.int a, .int b] => match m3[n]? with
    | some (.dct kvs) => if kvs.length < 16777216 then .nx l (m3.set n (.dct (putD kvs [a, b] v))) else .bad
    | _ => .bad
  | _, _ => .bad
/-- d[i] = v -/
def xDPutK (sv sd sk : SE) : SS := fun l m => R.then l (sv l m) fun v m1 => R.then l (sd l m1) fun x m2 => R.then l (sk l m2) fun k m3 => match x, k with
  | .ref n, .int k => match m3[n]? with
    | some (.dck kvs) => if kvs.length < 16777216 then .nx l (m3.set n (.dck (putD kvs k v))) else .bad
    | _ => .bad
  | _, _ => .bad
/-- d[key] -/
def dgetv : PV → PV → MH → OR
  | .ref n, .tup [.int a, .int b], m => match m[n]? with
    | some (.dct kvs) => (getD kvs [a, b]).map fun x => (x, m)
    | _ => none
  | _, _, _ => none
theorem ints_of : ∀ {xs : List PV} {k : List Int}, ints? xs = some k → xs = k.map .int
  | [], _, h => by cases h; rfl
  | .int i :: xs, _, h => by
    unfold ints? at h
    cases hx : ints? xs with
    | none => rw [hx] at h; cases h
    | some ms => rw [hx] at h; cases h; rw [ints_of hx]; rfl
theorem kV_ints (k : List Int) : k.map V.int = (encT k).map kV := by
  unfold encT
  rw [List.map_map]
  rfl
section
variable {X : Cx} {W : XM} {pos pos' pt : Pos} {value o i : Expr} {sv sd sk : SE} {ska : SA} {es : List Expr} {k k2 : Nat}
theorem q_dnewT : QE X W (.Dict [] [] pos) sDNewT :=
  ⟨pe_imp pe_dnewT fun σ H Q ⟨φ, l, m, h1, h2, h3⟩ p n => by
    have e : Ext X.K φ H (φ ++ [p]) (upd H p (.dT [])) := ⟨⟨[p], rfl⟩, fun a ws w => sqt_upd_new n w, fun _ _ _ w => by rw [upd_ne (ne_of_none w n)]; exact w⟩
    exact h3 (φ ++ [p]) _ _ e (h1.newO n e ⟨[], upd_same, rfl⟩) ⟨p, by simp [← h1.len], rfl⟩⟩
theorem q_dnewK : QE X W (.Dict [] [] pos) sDNewK :=
  ⟨pe_imp pe_dnewK fun σ H Q ⟨φ, l, m, h1, h2, h3⟩ p n => by
    have e : Ext X.K φ H (φ ++ [p]) (upd H p (.dK [])) := ⟨⟨[p], rfl⟩, fun a ws w => sqt_upd_new n w, fun _ _ _ w => by rw [upd_ne (ne_of_none w n)]; exact w⟩
    exact h3 (φ ++ [p]) _ _ e (h1.newO n e ⟨[], upd_same, rfl⟩) ⟨p, by simp [← h1.len], rfl⟩⟩
theorem x_dputT (hr : Room k X.A) (hv : QE X W value sv) (ho : QE X W o sd) (hi : QA X W es ska) (hs : swapsWith value (some (.Subscript o (.Tuple es k2 pt) pos')) pos.line X.env = pure false := by rfl) :
    QS X W (.Assign [.Subscript o (.Tuple es k2 pt) pos'] value pos) (xDPutT sv sd ska) :=
  ⟨ps_imp (ps_dput (by have := hr.units; omega) ho.pe (pe_tup hi.pa) hv.pe hs) fun D σ H ⟨φ, l, m, h1, h2, h3⟩ => by
    refine ⟨φ, l, m, h1, h2, (PostS.then (rel := rV X.K) h2 h3).mono ?_⟩
    rintro v H1 ⟨φ1, x, m1, e1, a1, b1, c1, d1⟩
    refine ⟨φ1, l, m1, a1, b1, (PostS.then (rel := rV X.K) b1 d1).mono ?_⟩
    rintro w H2 ⟨φ2, y, m2, e2, a2, b2, c2, d2⟩
    refine ⟨φ2, l, m2, a2, b2, (PostS.then (rel := rA X.K) b2 d2).mono ?_⟩
    rintro us H3 ⟨φ3, ks, m3, e3, a3, b3, c3, d3⟩
    split at d3
    · rename_i n a b
      split at d3
      · rename_i kvs hm
        by_cases hl : kvs.length < 16777216
        · rw [if_pos hl] at d3
          obtain ⟨ad, ha, rfl⟩ := RV.ext e3 c2
          obtain ⟨ws, q1, q2⟩ := a3.obj n ad _ ha hm
          have eus : us = (encT [a, b]).map kV := by
            obtain ⟨u1, r1, rfl, t1, u2, r2, rfl, t2, t3⟩ := c3
            cases t1; cases t2; cases t3
            rfl
          refine ⟨by rw [c3.length]; show 2 ≤ sizeLine; decide, fun p hp => ?_⟩
          obtain ⟨x1, x2, x3⟩ := a3.newT hp c3
          have hne : ad ≠ p := ne_of_none q1 hp
          have q1' : upd H3 p (.tup us) ad = some (.dT ws) := by rw [upd_ne hne]; exact q1
          have hwl : ws.length < sizeLine := by rw [rks_len q2, sl_eq]; exact hl
          have cv : RV X.K (upd H3 p (.tup us)) φ3 x v := RV.ext x1 (RV.ext e3 (RV.ext e2 c1))
          obtain ⟨y1, y2⟩ := x2.setM ha hm rfl q1' (fun _ z => by cases z) (fun _ _ z => by cases z) rfl (o2 := .dct (putD kvs [a, b] x)) (u2 := .dT (putK ws (encT [a, b]) v)) fun e => ⟨_, upd_same, rks_put encT_inj (RV.ext e cv) (RKs.ext (x1.trans e) q2)⟩
          exact ⟨ad, _, rfl, DPut.t q1' (by rw [upd_same, eus]) hwl, d3 φ3 σ _ (x1.trans y1) y2 (b3.ext (x1.trans y1))⟩
        · rw [if_neg hl] at d3; exact d3.elim
      · exact d3.elim
    · exact d3.elim⟩
theorem x_dputK (hr : Room k X.A) (hv : QE X W value sv) (ho : QE X W o sd) (hi : QE X W i sk) (hs : swapsWith value (some (.Subscript o i pos')) pos.line X.env = pure false := by rfl) :
    QS X W (.Assign [.Subscript o i pos'] value pos) (xDPutK sv sd sk) :=
  ⟨ps_imp (ps_dput (by have := hr.units; omega) ho.pe hi.pe hv.pe hs) fun D σ H ⟨φ, l, m, h1, h2, h3⟩ => by
    refine ⟨φ, l, m, h1, h2, (PostS.then (rel := rV X.K) h2 h3).mono ?_⟩
    rintro v H1 ⟨φ1, x, m1, e1, a1, b1, c1, d1⟩
    refine ⟨φ1, l, m1, a1, b1, (PostS.then (rel := rV X.K) b1 d1).mono ?_⟩
    rintro w H2 ⟨φ2, y, m2, e2, a2, b2, c2, d2⟩
    refine ⟨φ2, l, m2, a2, b2, (PostS.then (rel := rV X.K) b2 d2).mono ?_⟩
    rintro u H3 ⟨φ3, ky, m3, e3, a3, b3, c3, d3⟩
    split at d3
    · rename_i n a
      split at d3
      · rename_i kvs hm
        by_cases hl : kvs.length < 16777216
        · rw [if_pos hl] at d3
          obtain ⟨ad, ha, rfl⟩ := RV.ext e3 c2
          obtain ⟨ws, q1, q2⟩ := a3.obj n ad _ ha hm
          cases c3
          have hwl : ws.length < sizeLine := by rw [rks_len q2, sl_eq]; exact hl
          obtain ⟨y1, y2⟩ := a3.setM ha hm rfl q1 (fun _ z => by cases z) (fun _ _ z => by cases z) rfl (o2 := .dck (putD kvs a x)) (u2 := .dK (putK ws (encK a) v)) fun e => ⟨_, upd_same, rks_put encK_inj (RV.ext e (RV.ext e3 (RV.ext e2 c1))) (RKs.ext e q2)⟩
          exact ⟨ad, _, rfl, (show DPut H3 ad (kV (encK a)) v _ from DPut.k q1 hwl), d3 φ3 σ _ y1 y2 (b3.ext y1)⟩
        · rw [if_neg hl] at d3; exact d3.elim
      · exact d3.elim
    · exact d3.elim⟩
/-! a dict's value at a key that is a tuple of any kind -/
def tDGetS (K : PySem.W.Frag) (td ty : TE) : TE := fun σ H Q => td σ H fun x H1 => ty σ H1 fun y H2 => ∃ (a b : Addr) (kvs : List (List Key × V)) (k : List Key) (v : V), x = .ref a ∧ y = .ref b ∧ H2 a = some (.dT kvs) ∧ SqT K H2 b (k.map kV) ∧ valV kvs k = some v ∧ Q v H2
theorem pe_dgetS {td ty : TE} (hu : X.A.units + 1 < cLine) (ho : PE X o td) (hi : PE X i ty) (hs : NoSl i) : PE X (.Subscript o i pos) (tDGetS X.K td ty) := by
  refine ⟨fun pins s σ H Q I h => ?_⟩
  refine subD_of PySem.F.slot_dict_getitem.lookup hs (thn (ho.run pins s σ H _ I h) fun u s1 ⟨x, H1, I1, rx, q1⟩ => thn (hi.run pins s1 σ H1 _ I1 q1) fun iv s2 ⟨y, H2, I2, ry, a, b, kvs, k, v, ex, ey, hd, hk, hv, q2⟩ => ?_)
  subst ex ey
  obtain rfl : u = Value.ref a := rx
  obtain rfl : iv = Value.ref b := ry
  obtain ⟨z, hsm, xs, rel, dd⟩ := dt_of I2.hok hd
  obtain ⟨its, r, ⟨ob, hob, hc, n, hdt⟩, _⟩ := I2.tuple hk
  obtain ⟨od, es, ep, hod, hx, _⟩ := id dd
  obtain ⟨w', hw, rw'⟩ := RelO.some_of (v := v) (o := (atKey xs k).map (·.2)) (by rw [← hv]; exact rel.val k)
  obtain ⟨p, hp, hp2⟩ := Option.map_eq_some_iff.mp hw
  have key : (tupleKind (mixKind X.prog X.w)).is s2.heap k b := ⟨ob, its.toArray, n, hob, hc, hdt, by simpa using items_are r⟩
  refine ⟨⟨od, hod, hx.1⟩, wpAny_getItem_heap (tupleKind_room_in1 hu) key dd hp ?_⟩
  rw [hp2]
  exact ⟨v, H2, I2.tok _, rw', q2⟩
theorem q_dget (hr : Room k X.A) (ho : QE X W o sd) (hi : QE X W i sk) (hs : NoSl i) : QE X W (.Subscript o i pos) (sOp dgetv sd sk) :=
  ⟨pe_imp (pe_dgetS (by have := hr.units; omega) ho.pe hi.pe hs) fun σ H Q h => (two h).mono fun v H1 h1 => Rdg.mono h1 fun w H2 ⟨φ, m, x, y, _, c1, c2, c3, c4⟩ => by
    unfold dgetv at c4
    split at c4
    · rename_i n a b
      split at c4
      · rename_i kvs hm
        cases hg : getD kvs [a, b] with
        | none => rw [hg] at c4; exact c4.elim
        | some z =>
          rw [hg] at c4
          obtain ⟨ad, ha, rfl⟩ := c2
          obtain ⟨ws, q1, q2⟩ := c1.obj n ad _ ha hm
          obtain ⟨bd, us, rfl, t1, t2⟩ := c3
          have eus : us = (encT [a, b]).map kV := by
            obtain ⟨u1, r1, rfl, t3, u2, r2, rfl, t4, t5⟩ := t2
            cases t3; cases t4; cases t5
            rfl
          rw [eus] at t1
          obtain ⟨u, e1, e2⟩ := rks_get encT_inj q2 hg
          exact ⟨ad, bd, ws, _, u, rfl, rfl, q1, t1, e1, c4 φ H2 u Ext.refl c1 e2⟩
      · exact c4.elim
    · exact c4.elim⟩
end
/-! ## sorted of a dict whose keys are pairs -/
def kD : Key → PyData
  | .inl i => .int i
  | .inr x => .str x
def kTD (k : List Key) : PyData := .tuple (k.map kD)
def rSortT : List V → Hp → VK → Prop := fun vs H Q => ∃ (a : Addr) (kvs : List (List Key × V)), vs = [.ref a] ∧ H a = some (.dT kvs) ∧ PySem.W.AllAlike (kvs.map fun p => kTD p.1) ∧ PySem.W.Sortable (kvs.map fun p => kTD p.1) ∧ (∀ p ∈ kvs, (kTD p.1).depth ≤ 60) ∧
  ∀ (zs : List (V × PyData)) (p : Addr), PySem.W.EachIs (fun (kv : List Key × V) (z : V × PyData) => ∃ b, z.1 = .ref b ∧ H b = some (.tup (kv.1.map kV)) ∧ z.2 = kTD kv.1) kvs zs → H p = none → Q (.ref p) (upd H p (.lst ((zs.mergeSort (PySem.W.dataLe false (·.2))).map (·.1))))
theorem each_paired {α β : Type} {R : α → β → Prop} {γ : Type} {S : α → γ → Prop} (f : β → γ) (h : ∀ a b, R a b → S a (f b)) : ∀ {as : List α} {bs : List β}, Paired R as bs → PySem.W.EachIs S as (bs.map f)
  | _, _, .nil => .nil
  | _, _, .cons h1 h2 => .cons (h _ _ h1) (each_paired f h h2)
theorem each_swap {α β γ : Type} {R : α → β → Prop} (f : β → γ) : ∀ {as : List α} {bs : List β}, PySem.W.EachIs R as bs → as.length = bs.length
  | _, _, h => h.length
theorem dp_keys {K : PySem.W.Frag} {H : Hp} : ∀ k : List Key, DpAll K H (k.map kV) (k.map kD)
  | [] => .nil
  | .inl i :: k => .cons (.int i) (dp_keys k)
  | .inr x :: k => .cons (.str x) (dp_keys k)
theorem each_dp {K : PySem.W.Frag} {H : Hp} : ∀ {kvs : List (List Key × V)} {zs : List (V × PyData)}, PySem.W.EachIs (fun (kv : List Key × V) (z : V × PyData) => ∃ b, z.1 = .ref b ∧ H b = some (.tup (kv.1.map kV)) ∧ z.2 = kTD kv.1) kvs zs → (∀ z ∈ zs, Dp K H z.1 z.2) ∧ zs.map (·.2) = kvs.map fun p => kTD p.1
  | _, _, .nil => ⟨fun z hz => (nomatch hz), rfl⟩
  | _, _, .cons (b := z) ⟨b, e1, e2, e3⟩ h2 => by
    obtain ⟨i1, i2⟩ := each_dp (K := K) h2
    refine ⟨fun y hy => ?_, by rw [List.map_cons, List.map_cons, e3, i2]⟩
    rcases List.mem_cons.mp hy with rfl | hy
    · rw [e1, e3]
      exact .tup (.inl (.inl e2)) (dp_keys _)
    · exact i1 y hy
theorem reads_keys {h : Heap} : ∀ {k : List Key} {its : List Value}, Vals (k.map kV) its → ReadsAll h its (k.map kD) []
  | [], _, r => by cases r; exact .nil
  | .inl i :: k, _, r => by
    rw [List.map_cons] at r
    cases r with
    | cons r1 r2 =>
      obtain ⟨t, rfl⟩ := r1
      exact .cons (as := []) (bs := []) (.int i t) (reads_keys r2)
  | .inr x :: k, _, r => by
    rw [List.map_cons] at r
    cases r with
    | cons r1 r2 =>
      obtain ⟨t, rfl⟩ := r1
      exact .cons (as := []) (bs := []) (.str x t) (reads_keys r2)
section
variable {X : Cx}
theorem each_readsT {pins : List (Addr × Obj)} {s : Shared} {σ : L2.St} {H : Hp} (I : Inv X pins σ H s) : ∀ {kvs : List (List Key × V)} {zs : List (V × PyData)} {us : List Value}, PySem.W.EachIs (fun (kv : List Key × V) (z : V × PyData) => ∃ b, z.1 = .ref b ∧ H b = some (.tup (kv.1.map kV)) ∧ z.2 = kTD kv.1) kvs zs →
    Vals (zs.map (·.1)) us → PySem.W.EachIs (fun u (z : V × PyData) => Reads s.heap u z.2 []) us zs
  | _, _, _, .nil, r => by cases r; exact .nil
  | _, _, _, .cons (b := z) ⟨b, e1, e2, e3⟩ h2, r => by
    rw [List.map_cons] at r
    cases r with
    | cons r1 r2 =>
      rw [e1] at r1
      cases r1
      obtain ⟨_, its, rv, o, ho, hc, n, hd⟩ := (show ObjOk X.prog X.w H s.heap b (.tup _) from I.hok b _ e2)
      refine .cons ?_ (each_readsT I h2 r2)
      rw [e3]
      exact .tuple ho hc hd (by simpa using reads_keys rv)
theorem cr_sortT {k : Nat} (hc : X.calm = true) (hr : Room k X.A) : CallR X (.builtin "sorted") rSortT := by
  intro pins s σ H vs us Q I r h
  obtain ⟨d, kvs, rfl, hd, hal, hso, hdp, q⟩ := h
  obtain ⟨u, rfl, rx⟩ := r.one
  cases rx
  obtain ⟨z, hs, ks, pr, o, es, ep, ho, hx, hdt, he, hn⟩ := (show ObjOk X.prog X.w H s.heap d (.dT kvs) from I.hok d _ hd)
  have l1 : es.size = ks.length := size_of_entries he
  have l2 : kvs.length = ks.length := Paired.length pr
  have ez := each_paired (S := fun (kv : List Key × V) (z : V × PyData) => ∃ b, z.1 = .ref b ∧ H b = some (.tup (kv.1.map kV)) ∧ z.2 = kTD kv.1) (fun x : List Key × Addr × Value => (V.ref x.2.1, kTD x.1)) (fun a b hab => ⟨_, rfl, hab.2.1, by rw [hab.1]⟩) pr
  obtain ⟨ed, e2⟩ := each_dp (K := X.K) ez
  refine Calls.call_function_entry PyProof.Rows.kind_sorted PyProof.Rows.plain_sorted PyProof.Rows.entry_sorted (PyProof.Rows.args_sorted1 _) ?_
  unfold Builtin.«sorted»
  refine wpAny_bind (m := checkCount "sorted" 1 1 _) (wpAny_pure ?_)
  refine wpAny_bind (PySem.W.kdu_collect (A := X.A.in1) (kdl_raw hs hx hdt) (I.ok.hd hc) ho (by omega) fun h' tk acc kp it => ?_)
  have ea : acc.toList = ks.map fun x => Value.ref x.2.1 := by
    refine List.ext_getElem? fun j => ?_
    have hl : acc.toList.length = ks.length := by rw [Array.length_toList, it.1]; exact l1
    rw [List.getElem?_map]
    by_cases hj : j < ks.length
    · have h1 : acc.toList[j]? = some acc.toList[j] := List.getElem?_eq_getElem (by omega)
      have h2 : ks[j]? = some ks[j] := List.getElem?_eq_getElem hj
      obtain ⟨en, hen, hv⟩ := it.2 j acc.toList[j] (by rw [← Array.getElem?_toList]; exact h1)
      have h3 := entry_at he j
      rw [hen, h2] at h3
      rw [h1, h2, hv, Option.some.inj h3]
      rfl
    · rw [List.getElem?_eq_none (by omega), List.getElem?_eq_none (by omega)]
      rfl
  have rv : Vals ((ks.map fun x => (V.ref x.2.1, kTD x.1)).map (·.1)) acc.toList := by
    rw [ea, List.map_map]
    clear ea ez ed e2 pr he hn l1 l2
    induction ks with
    | nil => exact .nil
    | cons x ks ih => exact .cons rfl ih
  have I1 : Inv X pins σ H { s with heap := h', toks := tk } := I.kept kp
  have hacc : acc.toList.length ≤ sizeLine := by rw [ea, List.length_map]; omega
  refine wpAny_bind (wpAny_newList ?_ hacc)
  have hoL : (h'.push (seqObj "list" acc.toList.toArray 0)).get? h'.objs.size = some (seqObj "list" acc.toList.toArray 0) := Heap.get?_push_size _ rfl
  show wpAny _ _ _ _ _ { s with heap := h'.push (seqObj "list" acc.toList.toArray 0), toks := tk }
  have er := (each_readsT I1 ez rv).mono fun u (z : V × PyData) q => (⟨[], PyProof.Rows.Reads.keeps (fun b o e => Heap.get?_push_of_some _ e) q, by simp⟩ : ∃ as, Reads (h'.push (seqObj "list" acc.toList.toArray 0)) u z.2 as ∧ h'.objs.size ∉ as)
  have hlen : (ks.map fun x : List Key × Addr × Value => (V.ref x.2.1, kTD x.1)).length ≤ sizeLine := by rw [List.length_map]; omega
  refine wpAny_bind (wpAny_holding (PySem.W.list_sort_data (A := X.A.in1) (s := { s with heap := h'.push (seqObj "list" acc.toList.toArray 0), toks := tk }) (R := fun u (z : V × PyData) => RelV z.1 u) (enc := fun z => z.2) (bs := ks.map fun x => (V.ref x.2.1, kTD x.1)) hoL (each_vals rv) er (by rw [e2]; exact hal) (by rw [e2]; exact hso) hlen (fun z hz => ?_) fun out ho2 hout => ?_))
  · have : z.2 ∈ (ks.map fun x : List Key × Addr × Value => (V.ref x.2.1, kTD x.1)).map (·.2) := List.mem_map.mpr ⟨z, hz, rfl⟩
    rw [e2] at this
    obtain ⟨p, hp, e⟩ := List.mem_map.mp this
    have h1 := hdp p hp
    rw [e] at h1
    have h2 := hr.un
    show X.A.units + 1 + 1 + z.2.depth < cLine
    omega
  · obtain ⟨e', he'⟩ := PyProof.Rows.sortedHeap_at (vs := acc.toList) (out := List.toArray out) hoL
    have hv := vals_each hout
    refine wpAny_pure ⟨_, rfl, .ref h'.objs.size, upd H h'.objs.size (.lst (((ks.map fun x : List Key × Addr × Value => (V.ref x.2.1, kTD x.1)).mergeSort (PySem.W.dataLe false (·.2))).map (·.1))), I1.laid (t' := tk) (fun b u e => ?_) (Nat.le_refl _) ⟨?_, out, e', hv, he'⟩, rfl, q _ _ ez (I1.hok.fresh (Nat.le_refl _))⟩
    · have hb : b < h'.objs.size := Heap.lt_size e
      rw [PyProof.Rows.sortedHeap_old (Nat.ne_of_lt hb) (by rw [PyProof.Rows.size_push']; exact Nat.lt_succ_of_lt hb)]
      exact Heap.get?_push_of_some _ e
    · rw [List.length_map, List.length_mergeSort]
      exact hlen
end
def keyPVs (kvs : List (List Int × PV)) : List PV := kvs.map fun p => .tup (p.1.map .int)
theorem toD_ints {m : MH} {n : Nat} : ∀ k : List Int, allO ((k.map PV.int).map (toD m (n + 1))) = some (k.map PyData.int)
  | [] => rfl
  | i :: k => by
    rw [List.map_cons, List.map_cons]
    show (allO ((k.map PV.int).map (toD m (n + 1)))).map (PyData.int i :: ·) = _
    rw [toD_ints k]
    rfl
theorem toD_key {m : MH} {k : List Int} : toD m 8 (.tup (k.map .int)) = some (.tuple (k.map .int)) := by
  show (allO ((k.map PV.int).map (toD m 7))).map PyData.tuple = _
  rw [toD_ints]
  rfl
theorem dOf_key {m : MH} {k : List Int} : dOf m (.tup (k.map .int)) = kTD (encT k) := by
  unfold dOf kTD encT
  rw [toD_key, List.map_map]
  rfl
open Classical in
noncomputable def sortedTv : List PV → MH → OR
  | [.ref n], m => match m[n]? with
    | some (.dct kvs) => if SortOk m (keyPVs kvs) then some (.ref m.length, m ++ [.lst (sortD m (keyPVs kvs))]) else none
    | _ => none
  | _, _ => none
theorem keys_data {K : PySem.W.Frag} {H : Hp} {φ : List Addr} {m : MH} : ∀ {kvs : List (List Int × PV)} {ws : List (List Key × V)} {zs : List (V × PyData)}, RKs K H φ encT kvs ws →
    PySem.W.EachIs (fun (kv : List Key × V) (z : V × PyData) => ∃ b, z.1 = .ref b ∧ H b = some (.tup (kv.1.map kV)) ∧ z.2 = kTD kv.1) ws zs → PySem.W.EachIs (fun (p : PV × PyData) (z : V × PyData) => RV K H φ p.1 z.1 ∧ p.2 = z.2) ((keyPVs kvs).map fun x => (x, dOf m x)) zs
  | [], _, _, h, e => by cases h; cases e; exact .nil
  | p :: r, _, _, h, e => by
    obtain ⟨v, t, rfl, h2, h3⟩ := h
    cases e with
    | cons e1 e2 =>
      obtain ⟨b, q1, q2, q3⟩ := e1
      refine .cons ⟨?_, ?_⟩ (keys_data h3 e2)
      · rw [q1]
        refine ⟨b, p.1.map V.int, rfl, .inl (.inl ?_), rvs_ints _⟩
        rw [q2, ← kV_ints]
      · rw [q3]
        exact dOf_key
theorem rks_keys {K : PySem.W.Frag} {H : Hp} {φ : List Addr} {κ κ' : Type} {enc : κ → κ'} : ∀ {kvs : List (κ × PV)} {ws : List (κ' × V)}, RKs K H φ enc kvs ws → ws.map (·.1) = kvs.map fun p => enc p.1
  | [], _, h => by cases h; rfl
  | p :: r, _, h => by obtain ⟨v, t, rfl, h2, h3⟩ := h; rw [List.map_cons, List.map_cons, rks_keys h3]
section
variable {X : Cx} {k : Nat}
theorem c_sortedT (hc : X.calm = true) (hr : Room k X.A) : CrQ X (.builtin "sorted") sortedTv := .of fun vs H Q φ m xs h1 h2 h4 => by
  unfold sortedTv at h4
  split at h4
  · obtain ⟨v, rfl, r⟩ := h2.one
    rename_i n
    split at h4
    · rename_i kvs hm
      obtain ⟨a, ha, rfl⟩ := r
      obtain ⟨ws, q1, q2⟩ := h1.obj n a _ ha hm
      by_cases ok : SortOk m (keyPVs kvs)
      · rw [if_pos ok] at h4
        have ek : (ws.map fun p => kTD p.1) = (keyPVs kvs).map (dOf m) := by
          have e : (ws.map fun p => kTD p.1) = (ws.map (·.1)).map kTD := by rw [List.map_map]; rfl
          rw [e, rks_keys q2]
          unfold keyPVs
          rw [List.map_map, List.map_map]
          refine List.map_congr_left fun p _ => ?_
          exact dOf_key.symm
        refine ⟨_, cr_sortT hc hr, a, ws, rfl, q1, by rw [ek]; exact ok.al, by rw [ek]; exact ok.so, fun p hp => ?_, fun zs p hz hn => ?_⟩
        · have : kTD p.1 ∈ ws.map fun p => kTD p.1 := List.mem_map.mpr ⟨p, hp, rfl⟩
          rw [ek] at this
          obtain ⟨x, hx, e⟩ := List.mem_map.mp this
          rw [← e]
          exact ok.dp x hx
        · have e4 := keys_data (m := m) q2 hz
          exact h4.newL h1 (rvs_each (PySem.W.sort_each e4 fun p hp q hq => by
            have h1 := e4.zip p hp
            have h2 := e4.zip q hq
            show PySem.W.dataLe false (fun z : PV × PyData => z.2) p.1 q.1 = PySem.W.dataLe false (fun z : V × PyData => z.2) p.2 q.2
            unfold PySem.W.dataLe PySem.W.sortLe
            dsimp only
            rw [h1.2, h2.2])) p hn
      · rw [if_neg ok] at h4
        exact h4.not.elim
    · exact h4.not.elim
  · exact h4.not.elim
/-! ## sum of a tuple or list of integers -/
def sumv : List PV → MH → OR
  | [.ref n], m => match seq? m n with
    | some xs => (ints? xs).map fun ns => (.int ns.sum, m)
    | none => none
  | [.tup xs], m => (ints? xs).map fun ns => (.int ns.sum, m)
  | _, _ => none
theorem cr_sumT (hc : X.calm = true) : CallR X (.builtin "sum") (fun vs H Q => ∃ (a : Addr) (ns : List Int), vs = [V.ref a] ∧ SqT X.K H a (ns.map V.int) ∧ Q (.int ns.sum) H) := by
  intro pins s σ H vs us Q I r h
  obtain ⟨a, ns, rfl, hs, q⟩ := h
  obtain ⟨its, rv, ht, _⟩ := I.tuple hs
  rw [Vals.ref1 r]
  obtain ⟨xs, e⟩ := rv.ints.allInts.items
  have hn : numsOf (intItems xs).toList = ns := by rw [← e]; exact rv.ints.numsOf
  rw [nums_intItems] at hn
  rw [e] at ht
  refine PySem.W.ktm_sumG (I.ok.hd hc) ht fun h' tk t' hk => ?_
  rw [preSum_eq, List.take_of_length_le (by simp), hn]
  exact ⟨.int _, H, I.kept hk, ⟨_, rfl⟩, q⟩
theorem c_sum (hc : X.calm = true) : CrQ X (.builtin "sum") sumv := .of fun vs H Q φ m xs h1 h2 h4 => by
  unfold sumv at h4
  split at h4
  · obtain ⟨v, rfl, r⟩ := h2.one
    rename_i n
    cases hq : seq? m n with
    | none => rw [hq] at h4; exact h4.not.elim
    | some xs =>
      rw [hq] at h4
      obtain ⟨a, ws, rfl, q1, q2⟩ := h1.seq r hq
      dsimp only at h4
      cases hi : ints? xs with
      | none => rw [hi] at h4; exact h4.not.elim
      | some ns =>
        rw [hi] at h4
        have e := ints_rvs hi q2
        subst e
        exact ⟨_, cr_sum hc, a, ns, rfl, q1, h4.same h1 rfl⟩
  · obtain ⟨v, rfl, r⟩ := h2.one
    rename_i xs
    obtain ⟨a, ws, rfl, q1, q2⟩ := r
    cases hi : ints? xs with
    | none => rw [hi] at h4; exact h4.not.elim
    | some ns =>
      rw [hi] at h4
      have e := ints_rvs hi q2
      subst e
      exact ⟨_, cr_sumT hc, a, ns, rfl, q1, h4.same h1 rfl⟩
  · exact h4.not.elim
end
/-! ## == and != of two dicts of the same entries -/
def datK (m : MH) (kvs : List (Int × PV)) : Prop := ∀ p ∈ kvs, ∃ d, toD m 8 p.2 = some d ∧ SeqAt.shaped d = true ∧ PyData.eqv d d = true
open Classical in
noncomputable def neDv : PV → PV → MH → OR
  | .ref i, .ref j, m => match m[i]?, m[j]? with
    | some (.dck k1), some (.dck k2) => if k1 = k2 ∧ datK m k1 then some (.bl false, m) else none
    | _, _ => none
  | _, _, _ => none
open Classical in
noncomputable def eqDv : PV → PV → MH → OR
  | .ref i, .ref j, m => match m[i]?, m[j]? with
    | some (.dck k1), some (.dck k2) => if k1 = k2 ∧ datK m k1 then some (.bl true, m) else none
    | _, _ => none
  | _, _, _ => none
theorem valueAt_get {κ : Type} [DecidableEq κ] : ∀ {vs : List (κ × Value)} {j : Nat} {k : κ} {v : Value}, (vs.map (·.1)).Nodup → vs[j]? = some (k, v) → valueAt vs k = some v
  | [], _, _, _, _, e => by cases e
  | p :: vs, 0, k, v, nd, e => by
    cases e
    simp [valueAt]
  | p :: vs, j + 1, k, v, nd, e => by
    rw [List.map_cons, List.nodup_cons] at nd
    have e : vs[j]? = some (k, v) := by simpa using e
    have hm : k ∈ vs.map (·.1) := List.mem_map.mpr ⟨_, List.mem_of_getElem? e, rfl⟩
    have hne : ¬ p.1 = k := fun z => nd.1 (z ▸ hm)
    have := valueAt_get nd.2 e
    unfold valueAt at this ⊢
    rw [List.find?_cons_of_neg (by simpa using hne)]
    exact this
/-- entries of two dicts whose data are the same, place by place -/
inductive SameK (K : PySem.W.Frag) (H : Hp) : List (Key × V) → List (Key × V) → Prop
  | nil : SameK K H [] []
  | cons {k : Key} {v w : V} {d : PyData} {a b : List (Key × V)} (h1 : Dp K H v d) (h2 : Dp K H w d) (h3 : SeqAt.shaped d = true) (h4 : PyData.eqv d d = true) (r : SameK K H a b) : SameK K H ((k, v) :: a) ((k, w) :: b)
section
variable {X : Cx}
theorem sameK_hits {pins : List (Addr × Obj)} {s : Shared} {σ : L2.St} {H : Hp} (I : Inv X pins σ H s) (hu : X.A.units + 65 < cLine) {all : List (Key × Value)} (nd : (all.map (·.1)).Nodup) : ∀ {a b : List (Key × V)} {x y : List (Key × Value)} (j : Nat), SameK X.K H a b → KV a x → KV b y → (∀ i, all[j + i]? = y[i]?) → PySem.W.KeqHits X.A.in1 s all x true
  | _, _, _, _, j, .nil, h1, _, _ => by cases h1; exact .nil
  | _, _, _, _, j, .cons (d := d) q1 q2 q3 q4 r, h1, h2, h => by
    cases h1 with
    | cons p1 p2 =>
      rename_i x xs
      cases h2 with
      | cons p3 p4 =>
        rename_i y ys
        obtain ⟨e1, r1⟩ := p1
        obtain ⟨e2, r2⟩ := p3
        obtain ⟨kx, vx⟩ := x
        obtain ⟨ky, vy⟩ := y
        cases e1; cases e2
        have hj := h 0
        have hv := valueAt_get nd (j := j) (by simpa using hj)
        obtain ⟨as, s1⟩ := Dp.reads I d _ _ q1 r1
        obtain ⟨bs, s2⟩ := Dp.reads I d _ _ q2 r2
        have e := PySem.W.keq_at (A := X.A) s1 s2 q3 q3 (show X.A.units + 1 + 64 < cLine by omega)
        rw [q4] at e
        exact PySem.W.KeqHits.hit (e := true) (b := true) hv e (sameK_hits I hu nd (j + 1) r p2 p4 fun i => by
          have := h (i + 1)
          rw [show j + 1 + i = j + (i + 1) by omega]
          simpa using this)
theorem sameK_len {K : PySem.W.Frag} {H : Hp} : ∀ {a b : List (Key × V)}, SameK K H a b → a.length = b.length
  | _, _, .nil => rfl
  | _, _, .cons _ _ _ _ r => by simp [sameK_len r]
theorem op_neK {k : Nat} (hr : Room k X.A) : OpR X (compareOp .NotEq) (fun x y H Q => ∃ a b w1 w2, x = .ref a ∧ y = .ref b ∧ H a = some (.dK w1) ∧ H b = some (.dK w2) ∧ SameK X.K H w1 w2 ∧ Q (.bl false) H) := by
  intro pins s σ H x y v u Q I rx ry h
  obtain ⟨a, b, w1, w2, rfl, rfl, ha, hb, hs, q⟩ := h
  obtain rfl : v = Value.ref a := rx
  obtain rfl : u = Value.ref b := ry
  obtain ⟨z1, m1, v1, k1, d1⟩ := dk_of I.hok ha
  obtain ⟨z2, m2, v2, k2, d2⟩ := dk_of I.hok hb
  have nd : (v2.map (·.1)).Nodup := by obtain ⟨_, _, _, _, _, _, _, _, nd⟩ := id d2; exact nd
  have hl : v1.length = v2.length := by rw [← Paired.length k1, ← Paired.length k2]; exact sameK_len hs
  have hun := hr.un
  refine PySem.W.keq_ne m1 m2 d1 d2 hr.units0 (fun _ => sameK_hits I (by omega) nd 0 hs k1 k2 fun i => by rw [Nat.zero_add]) ?_
  rw [hl]
  simp only [beq_self_eq_true, Bool.and_self, Bool.not_true]
  exact ⟨.bl false, H, I, rfl, q⟩
theorem op_eqK {k : Nat} (hr : Room k X.A) : OpR X (compareOp .Eq) (fun x y H Q => ∃ a b w1 w2, x = .ref a ∧ y = .ref b ∧ H a = some (.dK w1) ∧ H b = some (.dK w2) ∧ SameK X.K H w1 w2 ∧ Q (.bl true) H) := by
  intro pins s σ H x y v u Q I rx ry h
  obtain ⟨a, b, w1, w2, rfl, rfl, ha, hb, hs, q⟩ := h
  obtain rfl : v = Value.ref a := rx
  obtain rfl : u = Value.ref b := ry
  obtain ⟨z1, m1, v1, k1, d1⟩ := dk_of I.hok ha
  obtain ⟨z2, m2, v2, k2, d2⟩ := dk_of I.hok hb
  have nd : (v2.map (·.1)).Nodup := by obtain ⟨_, _, _, _, _, _, _, _, nd⟩ := id d2; exact nd
  have hl : v1.length = v2.length := by rw [← Paired.length k1, ← Paired.length k2]; exact sameK_len hs
  have hun := hr.un
  refine PySem.W.keq_eq m1 m2 d1 d2 hr.units0 (fun _ => sameK_hits I (by omega) nd 0 hs k1 k2 fun i => by rw [Nat.zero_add]) ?_
  rw [hl]
  simp only [beq_self_eq_true, Bool.and_self]
  exact ⟨.bl true, H, I, rfl, q⟩
theorem sameK_of {K : PySem.W.Frag} {H : Hp} {φ : List Addr} {m : MH} (h : RH K H φ m) : ∀ {kvs : List (Int × PV)} {w1 w2 : List (Key × V)}, datK m kvs → RKs K H φ encK kvs w1 → RKs K H φ encK kvs w2 → SameK K H w1 w2
  | [], _, _, _, a, b => by cases a; cases b; exact .nil
  | p :: r, _, _, d, a, b => by
    obtain ⟨v, t, rfl, a2, a3⟩ := a
    obtain ⟨w, u, rfl, b2, b3⟩ := b
    obtain ⟨e, e1, e2, e3⟩ := d p List.mem_cons_self
    exact .cons (dp_of h 8 _ _ e a2 e1) (dp_of h 8 _ _ e b2 e1) e2 e3 (sameK_of h (fun q hq => d q (List.mem_cons_of_mem _ hq)) a3 b3)
theorem o_neD {k : Nat} (hr : Room k X.A) : OpQ X (compareOp .NotEq) neDv := .of_eq fun v w H Q φ m x y h1 h2 h3 h4 => by
  unfold neDv at h4
  split at h4
  · split at h4
    · rename_i i j k1 k2 e1 e2
      by_cases c : k1 = k2 ∧ datK m k1
      · rw [if_pos c] at h4
        obtain ⟨rfl, hd⟩ := c
        obtain ⟨a, ha, rfl⟩ := h2
        obtain ⟨b, hb, rfl⟩ := h3
        obtain ⟨w1, q1, q2⟩ := h1.obj _ a _ ha e1
        obtain ⟨w2, q3, q4⟩ := h1.obj _ b _ hb e2
        exact ⟨_, op_neK hr, a, b, w1, w2, rfl, rfl, q1, q3, sameK_of h1 hd q2 q4, h4.same h1 rfl⟩
      · rw [if_neg c] at h4; exact h4.not.elim
    · exact h4.not.elim
  · exact h4.not.elim
theorem o_eqDk {k : Nat} (hr : Room k X.A) : OpQ X (compareOp .Eq) eqDv := .of_eq fun v w H Q φ m x y h1 h2 h3 h4 => by
  unfold eqDv at h4
  split at h4
  · split at h4
    · rename_i i j k1 k2 e1 e2
      by_cases c : k1 = k2 ∧ datK m k1
      · rw [if_pos c] at h4
        obtain ⟨rfl, hd⟩ := c
        obtain ⟨a, ha, rfl⟩ := h2
        obtain ⟨b, hb, rfl⟩ := h3
        obtain ⟨w1, q1, q2⟩ := h1.obj _ a _ ha e1
        obtain ⟨w2, q3, q4⟩ := h1.obj _ b _ hb e2
        exact ⟨_, op_eqK hr, a, b, w1, w2, rfl, rfl, q1, q3, sameK_of h1 hd q2 q4, h4.same h1 rfl⟩
      · rw [if_neg c] at h4; exact h4.not.elim
    · exact h4.not.elim
  · exact h4.not.elim
end
end SM

set_option Elab.async false
set_option linter.all false
set_option maxRecDepth 100000
set_option maxHeartbeats 2000000
/-! SM17: sorted with a def of the law as its key. -/
namespace SM
open PySem PySem.Spec PyProof.Rows L2
/-! ## inside a built-in that calls a def -/
abbrev inn (X : Cx) : Cx := { X with A := X.A.in1.in1, xe := fun _ _ => False }
section
variable {X : Cx} {pins : List (Addr × Obj)} {σ : L2.St} {H : Hp} {s : Shared}
theorem ok_inn (o : X.Ok) : (inn X).Ok := { mod := o.mod, kind := o.kind, glob := o.glob, blt := o.blt, above := o.above, inj := o.inj, has := o.has, cab := o.cab, hd := o.hd, frames := o.frames, stk := o.stk, exf := o.exf, bs := o.bs, bsz := o.bsz, noex := o.noex, exfs := o.exfs, funs := o.funs, frf := o.frf }
theorem inv_inn (I : Inv X pins σ H s) : Inv (inn X) pins σ H s := { ok := ok_inn I.ok, os := I.os, bare := I.bare, base := I.base, loc := I.loc, cell := I.cell, free := I.free, freeC := I.freeC, pin := I.pin, hok := I.hok, len := I.len }
theorem inv_out (o : X.Ok) (I : Inv (inn X) pins σ H s) : Inv X pins σ H s := { ok := o, os := I.os, bare := I.bare, base := I.base, loc := I.loc, cell := I.cell, free := I.free, freeC := I.freeC, pin := I.pin, hok := I.hok, len := I.len }
end
/-! ## what it gives -/
def keyOf (g : FS) (m : MH) (x : PV) : PV := match g [x] m with
  | .ok k _ => k
  | _ => .non
structure SortKOk (g : FS) (m : MH) (xs : List PV) : Prop where
  kk : ∀ x ∈ xs, ∃ k, g [x] m = .ok k m
  ok : SortOk m (xs.map (keyOf g m))
noncomputable def sortK (g : FS) (m : MH) (xs : List PV) : List PV := ((xs.map fun x => (x, dOf m (keyOf g m x))).mergeSort (PySem.W.dataLe false (·.2))).map (·.1)
theorem sortK_perm {g : FS} {m : MH} {xs : List PV} : (sortK g m xs).Perm xs := by
  have h := (List.mergeSort_perm (xs.map fun x => (x, dOf m (keyOf g m x))) (PySem.W.dataLe false (·.2))).map (·.1)
  rw [List.map_map] at h
  have e : (Prod.fst ∘ fun x => (x, dOf m (keyOf g m x))) = (id : PV → PV) := rfl
  rw [e, List.map_id] at h
  exact h
theorem sortK_pair {g : FS} {m : MH} {xs : List PV} : (sortK g m xs).Pairwise fun a b => PySem.W.dataLe false (fun x => dOf m (keyOf g m x)) a b = true := by
  have h := PySem.W.sort_pairwise (PySem.W.sortLe_total (PyProof.Rows.listOrd PyProof.Rows.itemOrd) false fun z : PV × PyData => PySem.W.keyToks z.2) (xs.map fun x => (x, dOf m (keyOf g m x)))
  unfold sortK
  rw [List.pairwise_map]
  refine List.Pairwise.imp_of_mem ?_ h
  intro a b ha hb h
  have ha := List.mem_map.mp ((List.mergeSort_perm _ _).mem_iff.mp ha)
  have hb := List.mem_map.mp ((List.mergeSort_perm _ _).mem_iff.mp hb)
  obtain ⟨x, _, rfl⟩ := ha
  obtain ⟨y, _, rfl⟩ := hb
  exact h
/-! ## the loop over the keys -/
section
variable {X : Cx} {pins : List (Addr × Obj)} {σ : L2.St} {H : Hp} {s : Shared}
/-- where the keys stand while the def runs, item by item -/
def KInv (X : Cx) (pins : List (Addr × Obj)) (σ : L2.St) (H : Hp) (φ : List Addr) (m : MH) (g : FS) (xs : List PV) (D kS : Addr) (e1 : Nat) (i : Nat) (t : Shared) : Prop :=
  ∃ (H' : Hp) (φ' : List Addr) (kv : List V) (kA : Array Value) (e : Nat), Inv X pins σ H' t ∧ H' kS = none ∧ H' D = none ∧ Ext X.K φ H φ' H' ∧ RH X.K H' φ' m ∧ RVs X.K H' φ' ((xs.take i).map (keyOf g m)) kv ∧ Vals kv kA.toList ∧
    t.heap.get? kS = some (seqObj "list" kA e) ∧ t.heap.get? D = some (seqObj "list" #[] e1)
theorem rvs_dp {K : PySem.W.Frag} {H : Hp} {φ : List Addr} {m : MH} (h : RH K H φ m) : ∀ {xs : List PV} {vs : List V}, RVs K H φ xs vs → (∀ x ∈ xs, ∃ d, toD m 8 x = some d) →
    ∃ zs : List (V × PyData), zs.map (·.1) = vs ∧ zs.map (·.2) = xs.map (dOf m) ∧ ∀ z ∈ zs, Dp K H z.1 z.2 := fun r d => by
  obtain ⟨zs, a, b, c, _⟩ := zip_data h r d
  exact ⟨zs, a, b, c⟩
theorem each_map_snd {h : Heap} : ∀ {zs : List (V × PyData)} {us : List Value}, PySem.W.EachIs (fun u (z : V × PyData) => ∃ as, Reads h u z.2 as) us zs → PySem.W.EachIs (fun u d => ∃ as, Reads h u d as) us (zs.map (·.2))
  | _, _, .nil => .nil
  | _, _, .cons h1 h2 => .cons h1 (each_map_snd h2)
theorem zip_keys {K : PySem.W.Frag} {H : Hp} {φ : List Addr} {m : MH} {g : FS} : ∀ {xs : List PV} {ws : List V}, RVs K H φ xs ws →
    ∃ zs : List (V × PyData), zs.map (·.1) = ws ∧ zs.map (·.2) = (xs.map (keyOf g m)).map (dOf m) ∧ PySem.W.EachIs (fun (p : PV × PyData) (z : V × PyData) => RV K H φ p.1 z.1 ∧ p.2 = z.2) (xs.map fun x => (x, dOf m (keyOf g m x))) zs
  | [], _, r => by cases r; exact ⟨[], rfl, rfl, .nil⟩
  | x :: xs, _, r => by
    obtain ⟨v, vs, rfl, r1, r2⟩ := r
    obtain ⟨zs, e1, e2, e3⟩ := zip_keys (m := m) (g := g) r2
    exact ⟨(v, _) :: zs, by rw [List.map_cons, e1], by rw [List.map_cons, e2]; rfl, .cons ⟨r1, rfl⟩ e3⟩
theorem key_step {k : Nat} {fa : Addr} {fd : FuncData} {ps : List Str} {g : FS} {m : MH} {xs : List PV} {ws : List V} {its : List Value} {φ : List Addr} {D kS : Addr} {e1 : Nat}
    (F : FnOk X.prog X.w X.K X.mg X.base CX0 k fa fd ps (SpQ X.K 1 g)) (hr : Room (k + 2) X.A) (hb : Binds X.K fd ps []) (I : Inv X pins σ H s) (hD : s.heap.objs.size ≤ D) (hS : s.heap.objs.size ≤ kS) (hne : kS ≠ D)
    (hv : RVs X.K H φ xs ws) (rv : Vals ws its) (hL : its.length ≤ sizeLine) (ok : ∀ x ∈ xs, ∃ k, g [x] m = .ok k m) {j : Nat} {u : Value} {t : Shared} (hu : its[j]? = some u) (J : KInv X pins σ H φ m g xs D kS e1 j t) :
    wpAny (model X.prog X.w) X.A.in1.in1 (call (.ref fa) [u]) (fun v t2 => ∃ (kA : Array Value) (e : Nat), t2.heap.get? kS = some (seqObj "list" kA e) ∧ kA.size ≤ its.length ∧ (kA.size = j) ∧
      KInv X pins σ H φ m g xs D kS e1 (j + 1) { t2 with heap := t2.heap.update kS (Obj.mapSeq (·.push v)) }) (fun _ _ => False) t := by
  obtain ⟨H', φ', kv, kA, e, I', nS, nD, ex, hR, hk, hkv, gS, gD⟩ := J
  have hj : j < its.length := (List.getElem?_eq_some_iff.mp hu).1
  have l1 : ws.length = its.length := rv.length
  have l2 : ws.length = xs.length := hv.length
  obtain ⟨x, hx⟩ : ∃ x, xs[j]? = some x := ⟨_, List.getElem?_eq_getElem (by omega)⟩
  obtain ⟨w, hw, rx⟩ := hv.get hx
  obtain ⟨u', hu', rw⟩ := rv.get hw
  obtain rfl : u' = u := by rw [hu] at hu'; exact (Option.some.inj hu').symm
  obtain ⟨ky, hky⟩ := ok x (List.mem_of_getElem? hx)
  have eky : keyOf g m x = ky := by unfold keyOf; rw [hky]
  have hsz : kA.size = j := by
    have a := hk.length
    have b : kv.length = kA.toList.length := hkv.length
    have c : kA.toList.length = kA.size := Array.length_toList
    rw [List.length_map, List.length_take, Nat.min_eq_left (by omega)] at a
    omega
  have I2 : Inv X (pins ++ [(kS, seqObj "list" kA e), (D, seqObj "list" #[] e1)]) σ H' t := I'.pins_of fun p hp => by
    rcases List.mem_append.mp hp with hp | hp
    · exact I'.pin p (List.mem_append_right _ hp)
    · rcases List.mem_cons.mp hp with rfl | hp
      · exact ⟨gS, nS, Nat.ne_of_gt (Nat.lt_of_lt_of_le I.lt hS), I.nofs hS, fun v z => by cases z⟩
      · rcases List.mem_cons.mp hp with rfl | hp
        · exact ⟨gD, nD, Nat.ne_of_gt (Nat.lt_of_lt_of_le I.lt hD), I.nofs hD, fun v z => by cases z⟩
        · cases hp
  refine wpAny_mono (run_fn (X := inn X) (E := E0) (dvs := []) (Q := fun v H2 => ∃ φ2, Ext X.K φ' H' φ2 H2 ∧ RH X.K H2 φ2 m ∧ RV X.K H2 φ2 ky v) F hr.in1.in1 hb .nil pass0 (inv_inn I2) (.cons rw .nil)
    ⟨rfl, φ', m, [x], hR, ⟨w, [], rfl, rx.ext ex, rfl⟩, ?_⟩) (fun v t2 hq => ?_) fun _ _ h => h
  · rw [hky]
    exact fun φ2 H2 v a b c => ⟨φ2, a, b, c⟩
  · obtain ⟨y, H2, I3, ry, φ2, x2, r2, rk⟩ := hq
    have I4 : Inv X (pins ++ [(kS, seqObj "list" kA e), (D, seqObj "list" #[] e1)]) σ H2 t2 := inv_out I.ok I3
    obtain ⟨a1, a2, -⟩ := I4.pin (kS, seqObj "list" kA e) (List.mem_append_right _ (List.mem_append_right _ (.head _)))
    obtain ⟨b1, b2, -⟩ := I4.pin (D, seqObj "list" #[] e1) (List.mem_append_right _ (List.mem_append_right _ (.tail _ (.head _))))
    have sb := Heap.SameBut.update t2.heap kS (Obj.mapSeq (·.push v))
    refine ⟨kA, e, a1, by omega, hsz, H2, φ2, kv ++ [y], kA.push v, _, ?_, a2, b2, ex.trans x2, r2, ?_, ?_, get?_update_seq a1 (·.push v), (sb.2 D hne.symm).trans b1⟩
    · exact I4.unpinned.turnedL (t' := t2.toks) (ch := [kS]) (fun b o hb q => (sb.2 b fun z => hb (by rw [z]; exact .head _)).trans q) fun b hb => by
        obtain rfl : b = kS := by simpa using hb
        exact I.fpOk hS a2
    · rw [List.take_add_one, hx, List.map_append]
      refine RVs.append (RVs.ext x2 hk) ?_
      exact ⟨y, [], rfl, by rw [eky]; exact rk, rfl⟩
    · rw [Array.toList_push]
      exact hkv.append (.cons ry .nil)
theorem key_rest {k : Nat} {fa : Addr} {fd : FuncData} {ps : List Str} {g : FS} {m : MH} {xs : List PV} {ws : List V} {its : List Value} {φ : List Addr} {D kS : Addr} {e1 : Nat} {Q : VK} {t : Shared} {E : Value → Shared → Prop}
    (F : FnOk X.prog X.w X.K X.mg X.base CX0 k fa fd ps (SpQ X.K 1 g)) (hr : Room (k + 2) X.A) (hb : Binds X.K fd ps []) (I : Inv X pins σ H s) (hD : s.heap.objs.size ≤ D) (hS : s.heap.objs.size ≤ kS) (hne : kS ≠ D)
    (hv : RVs X.K H φ xs ws) (rv : Vals ws its) (hL : its.length ≤ sizeLine) (ok : SortKOk g m xs) (J : KInv X pins σ H φ m g xs D kS e1 0 t)
    (q : ∀ φ' H' vs, Ext X.K φ H φ' H' → RH X.K H' φ' m → RVs X.K H' φ' (sortK g m xs) vs → H' D = none → Q (.ref D) (upd H' D (.lst vs))) :
    wpAny (model X.prog X.w) X.A.in1.in1 (ksk_rest D (.ref fa) false its.toArray e1 (.ref kS)) (fun f t2 => f = .done (.ret .none) ∧ EP X pins σ Q (.ref D) t2) E t := by
  unfold ksk_rest
  refine wpAny_bind (wpAny_rule ?_)
  first
    | rw [List.forIn_toArray]
    | (rw [← Array.forIn_toList]; simp only [List.toList_toArray])
  refine wpAny_bind (ksk_fold (KInv X pins σ H φ m g xs D kS e1) its 0 t J (fun j u t1 hu J1 => ?_) fun t1 J1 => ?_)
  · rw [Nat.zero_add] at J1 ⊢
    refine wpAny_bind (wpAny_attempt (wpAny_mono (key_step F hr hb I hD hS hne hv rv hL ok.kk hu J1) (fun v t2 hq => ?_) fun _ _ h => h.elim))
    obtain ⟨kA, e, a1, a2, a3, a4⟩ := hq
    try dsimp only
    refine wpAny_bind (listUpdate_at a1 rfl ?_ (Nat.le_trans a2 hL) (Nat.le_trans (Nat.le_of_eq (Array.size_push ..)) (Nat.succ_le_succ (Nat.le_trans a2 hL))))
    exact wpAny_pure ⟨rfl, a4⟩
  · obtain ⟨H', φ', kv, kA, e, I', nS, nD, ex, hR, hk, hkv, gS, gD⟩ := J1
    have l1 : ws.length = its.length := rv.length
    have l2 : ws.length = xs.length := hv.length
    rw [Nat.zero_add, List.take_of_length_le (by omega)] at hk
    obtain ⟨ks, k1, k2, k3⟩ := rvs_dp hR hk ok.ok.rd
    subst k1
    have hkr := each_map_snd (each_reads I' hkv k3)
    rw [k2] at hkr
    have hsz : kA.size = its.length := by
      have a := hk.length
      have b : (ks.map (·.1)).length = kA.toList.length := hkv.length
      have c : kA.toList.length = kA.size := Array.length_toList
      simp only [List.length_map] at a b l1 l2
      omega
    obtain ⟨zs, z1, z2, z4⟩ := zip_keys (m := m) (g := g) (RVs.ext ex hv)
    subst z1
    try dsimp only
    refine wpAny_bind (listItems_at gS rfl ?_)
    have hkS : (t1.heap.hide kS).get? kS = none := Heap.hide_self _ _
    have kp : PySem.W.KeepsBut D (t1.heap.hide kS) t1.heap := fun b o _ e => Heap.of_hide e
    refine PySem.W.keyH_end (κ := PySem.W.dataKind t1.heap ((xs.map (keyOf g m)).map (dOf m))) (h₁ := t1.heap.hide kS) kp hkS gS gD hne (PySem.W.SortsAt.data hkr ok.ok.al ok.ok.so fun d hd => ?_) hsz hL fun h3 tk c k3' n3 => ⟨rfl, ?_⟩
    · obtain ⟨y, hy, rfl⟩ := List.mem_map.mp hd
      have a := ok.ok.dp y hy
      have b := hr.units
      show X.A.units + 1 + 1 + _ < cLine
      omega
    · have ko : PySem.W.KeyedOut false (zs.map (·.2)) its (PySem.W.sortVals (PySem.W.dataKind t1.heap ((xs.map (keyOf g m)).map (dOf m))) false kA.toList its) := ⟨t1.heap, kA.toList, by rw [z2]; exact ok.ok.al, by rw [z2], by rw [z2]; exact hkr⟩
      have ho := vals_each (PySem.W.keyedOut_each (fun z : V × PyData => z.2) ko (each_vals rv))
      have hrv : RVs X.K H' φ' (sortK g m xs) ((zs.mergeSort (PySem.W.dataLe false (·.2))).map (·.1)) := rvs_each (PySem.W.sort_each z4 fun p hp q hq => by
        have h1 := z4.zip p hp
        have h2 := z4.zip q hq
        show PySem.W.dataLe false (fun z : PV × PyData => z.2) p.1 q.1 = PySem.W.dataLe false (fun z : V × PyData => z.2) p.2 q.2
        unfold PySem.W.dataLe PySem.W.sortLe
        dsimp only
        rw [h1.2, h2.2])
      have I5 : Inv X pins σ H' { t1 with heap := h3, toks := tk } := I'.turnedL (t' := tk) (ch := [kS, D]) (fun b o hb e => k3' b o (fun z => hb (by rw [z]; exact .tail _ (.head _))) (by rw [Heap.hide_ne _ (fun z => hb (by rw [z]; exact .head _))]; exact e)) fun b hb => by
        rcases List.mem_cons.mp hb with rfl | hb
        · exact I.fpOk hS nS
        · obtain rfl : b = D := by simpa using hb
          exact I.fpOk hD nD
      refine ⟨.ref D, upd H' D (.lst ((zs.mergeSort (PySem.W.dataLe false (·.2))).map (·.1))), I5.take (t' := tk) (it := D) (fun b o _ e => e) (I.fpOk hD nD) ⟨?_, _, c, ho, n3⟩, rfl, q φ' H' _ ex hR hrv nD⟩
      rw [ho.length]
      have : (PySem.W.sortVals (PySem.W.dataKind t1.heap ((xs.map (keyOf g m)).map (dOf m))) false kA.toList its).length = its.length := PySem.W.sortVals_length false (by rw [Array.length_toList]; exact hsz)
      rw [this]
      exact hL
/-- sorted(xs, key=f) -/
theorem run_sortK {k : Nat} {fa a : Addr} {fd : FuncData} {ps : List Str} {g : FS} {m : MH} {xs : List PV} {ws : List V} {φ : List Addr} {Q : VK}
    (F : FnOk X.prog X.w X.K X.mg X.base CX0 k fa fd ps (SpQ X.K 1 g)) (hr : Room (k + 2) X.A) (hb : Binds X.K fd ps []) (I : Inv X pins σ H s) (hR : RH X.K H φ m) (hs : SqL X.K H a ws) (hv : RVs X.K H φ xs ws) (ok : SortKOk g m xs)
    (q : ∀ φ' H' vs p, Ext X.K φ H φ' H' → RH X.K H' φ' m → RVs X.K H' φ' (sortK g m xs) vs → H' p = none → Q (.ref p) (upd H' p (.lst vs))) :
    wpAny (model X.prog X.w) X.A (call (.builtin "sorted") [.ref a] [(Str.ofString "key", .ref fa)]) (EP X pins σ Q) X.xe s := by
  obtain ⟨its, rv, hl, hz⟩ := I.list hs
  have hil : its.length ≤ sizeLine := by rw [← rv.length]; exact hz
  refine PySem.W.sorted_of_sort hl.isList hil (ksk_s1 _ _) (fun _ => ksk_l1 _ _) fun E' => ?_
  rw [ksk_t1]
  have h1 := PySem.W.copyHeap_at s.heap its
  obtain ⟨e1, ho1⟩ : ∃ e1, ((PySem.W.copyHeap s.heap its).update (s.heap.objs.size + 1) (Obj.mapSeq fun _ => (#[] : Array Value))).get? (s.heap.objs.size + 1) = some (seqObj "list" #[] e1) := ⟨_, get?_update_seq h1 fun _ => #[]⟩
  unfold ksk_tree
  refine wpAny_bind (listItems_at h1 rfl (wpAny_bind (listUpdate_at h1 rfl ?_ (by rw [List.size_toArray]; exact hil) (Nat.zero_le _))))
  refine wpAny_bind (seqEpoch_at ho1 rfl (wpAny_bind (wpAny_newTuple ?_ (by show its.length ≤ _; exact hil))))
  refine wpAny_bind (wpAny_newList ?_ (Nat.zero_le _))
  refine wpAny_holding ?_
  have hcs : s.heap.objs.size + 1 < (PySem.W.copyHeap s.heap its).objs.size := Heap.lt_size h1
  have hus : ((PySem.W.copyHeap s.heap its).update (s.heap.objs.size + 1) (Obj.mapSeq fun _ => (#[] : Array Value))).objs.size = (PySem.W.copyHeap s.heap its).objs.size := Heap.size_update ..
  have hps : (((PySem.W.copyHeap s.heap its).update (s.heap.objs.size + 1) (Obj.mapSeq fun _ => (#[] : Array Value))).push (seqObj "tuple" its.toArray 0)).objs.size = (PySem.W.copyHeap s.heap its).objs.size + 1 := by rw [size_push', hus]
  refine key_rest F hr hb I (Nat.le_succ _) (kS := _) (by show s.heap.objs.size ≤ (Heap.push _ (seqObj "tuple" its.toArray 0)).objs.size; rw [hps]; omega) (by show (Heap.push _ (seqObj "tuple" its.toArray 0)).objs.size ≠ _; rw [hps]; omega) hv rv hil ok
    ⟨H, φ, [], #[], 0, I.kept (t' := s.toks) (fun b o e => PySem.W.sorting_copy_old e), I.hok.fresh ?_, I.hok.fresh (Nat.le_succ _), .refl, hR, rfl, .nil, Heap.get?_push_size _ rfl, Heap.get?_push_of_some _ (Heap.get?_push_of_some _ ho1)⟩ fun φ' H' vs a b c d => q φ' H' vs _ a b c d
  show s.heap.objs.size ≤ (Heap.push _ (seqObj "tuple" its.toArray 0)).objs.size
  rw [hps]
  omega
end
open Classical in
/-- sorted(xs, key=f) over the reckoning's values -/
noncomputable def sortKv (g : FS) : List PV → MH → OR
  | [.ref n], m => match seq? m n with
    | some xs => if SortKOk g m xs then some (.ref m.length, m ++ [.lst (sortK g m xs)]) else none
    | none => none
  | _, _ => none
section
variable {X : Cx} {W : XM} {e : Expr} {x : Str} {p pf kp pos : Pos} {k j : Nat} {g : FS} {ses : SA}
theorem cr_sortK {fa : Addr} {fd : FuncData} {ps : List Str} (F : FnOk X.prog X.w X.K X.mg X.base CX0 k fa fd ps (SpQ X.K 1 g)) (hr : Room (k + 2) X.A) (hb : Binds X.K fd ps []) :
    CallRK X (.builtin "sorted") [Str.ofString "key"] fun vs zs H Q => zs = [.ref fa] ∧ ∃ φ m xs, RH X.K H φ m ∧ RVs X.K H φ xs vs ∧ PostO X.K φ H (sortKv g xs m) Q := by
  intro pins s σ H vs zs us ws Q I r rz ⟨ez, φ, m, xs, h1, h2, h4⟩
  subst ez
  unfold sortKv at h4
  split at h4
  · obtain ⟨v, rfl, rx⟩ := h2.one
    rename_i n
    cases hq : seq? m n with
    | none => rw [hq] at h4; exact h4.not.elim
    | some xs =>
      rw [hq] at h4
      obtain ⟨a, vs, rfl, q1, q2⟩ := h1.seq rx hq
      dsimp only at h4
      by_cases ok : SortKOk g m xs
      · rw [if_pos ok] at h4
        obtain rfl := Vals.ref1 r
        obtain rfl := Vals.ref1 rz
        refine run_sortK F hr hb I h1 q1 q2 ok fun φ' H' vs p a b c d => ?_
        obtain ⟨y, m', e0, q⟩ := h4
        cases e0
        obtain ⟨x1, x2, x3⟩ := b.newL d c
        exact q _ _ _ (a.trans x1) x2 x3
      · rw [if_neg ok] at h4
        exact h4.not.elim
  · exact h4.not.elim
theorem q_sortK (C : Cal X.prog X.w X.K X.mg X.base x 1 k g) (hr : Room j X.A) (hk : k + 2 ≤ j) (hg : Gl X (Str.ofString "sorted")) (hgx : Gl X x) (hm : X.mg (Str.ofString "sorted") = none) (ha : QA X W [e] ses)
    (hv : bootBuiltins (Str.ofString "sorted") = some (.builtin "sorted") := by rfl) (hdb : (x == ("__debug__" : Str)) = false := by decide) (hn : (Str.ofString "sorted") ≠ "__name__" := by decide) (hd2 : (Str.ofString "sorted" == ("__debug__" : Str)) = false := by decide)
    (he : backTo pos (starEach [e] X.env) = (false, eval e X.env) :: backTo pos (starEach [] X.env) := by rfl) (hpl : (backTo pos (starEach [e] X.env)).any (·.1) = false := by rfl)
    (hall : (backToKw pos (keywordEach [⟨some (Str.ofString "key"), .Name x pf, kp⟩] X.env)).all (·.1.isSome) = true := by rfl) (hnone : (backToKw pos (keywordEach [⟨some (Str.ofString "key"), .Name x pf, kp⟩] X.env)).any (·.1.isNone) = false := by rfl)
    (hks : (backToKw pos (keywordEach [⟨some (Str.ofString "key"), .Name x pf, kp⟩] X.env)).filterMap (·.1) = [Str.ofString "key"] := by rfl) :
    QE X W (.Call (.Name (Str.ofString "sorted") p) [e] [⟨some (Str.ofString "key"), .Name x pf, kp⟩] pos) (sCall (sortKv g) ses) := by
  obtain ⟨fa, fd, ps, hps, F, hmx, hkp, hb⟩ := C
  exact ⟨pe_imp (pe_callBK (cr_sortK F (hr.mono hk) hb) hg hm hv ha.pa (pk_cons (pe_glob hgx hmx (v := .ref fa) rfl hdb) pk_nil) hn hd2 he hpl hall hnone hks) fun σ H Q q => (oneA q).mono fun vs H1 ⟨φ, m, xs, _, c1, c2, c3⟩ => ⟨rfl, φ, m, xs, c1, c2, .of c3⟩⟩
end
end SM

set_option Elab.async false
set_option linter.all false
set_option maxRecDepth 100000
set_option maxHeartbeats 2000000
/-! SM18: more forms: xs[::-1] of a list. -/
namespace SM
open PySem PySem.Spec PyProof.Rows L2
/-- xs[::-1] -/
def revv : PV → MH → OR
  | .ref n, m => (seq? m n).map fun xs => (.ref m.length, m ++ [.lst xs.reverse])
  | _, _ => none
theorem RVs.reverse {K : PySem.W.Frag} {H : Hp} {φ : List Addr} : ∀ {xs : List PV} {vs : List V}, RVs K H φ xs vs → RVs K H φ xs.reverse vs.reverse
  | [], _, h => by cases h; exact rfl
  | x :: xs, _, h => by
    obtain ⟨v, r, rfl, h2, h3⟩ := h
    rw [List.reverse_cons, List.reverse_cons]
    exact RVs.append (RVs.reverse h3) ⟨v, [], rfl, h2, rfl⟩
section
variable {X : Cx} {W : XM} {e : Expr} {se : SE} {k : Nat} {p1 p2 p3 pos : Pos}
theorem q_revL (he : QE X W e se) : QE X W (.Subscript e (.Slice none none (some (.UnaryOp .USub (.Constant (.int 1) k p1) p2)) p3) pos) (sUn revv se) :=
  ⟨pe_imp (pe_revL he.pe) fun σ H Q h => (one h).mono fun v H1 ⟨φ, m, x, _, c1, c2, c3⟩ => by
    have c4 := PostO.of c3
    unfold revv at c4
    split at c4
    · rename_i n
      cases hq : seq? m n with
      | none => rw [hq] at c4; exact c4.not.elim
      | some xs =>
        rw [hq] at c4
        obtain ⟨a, vs, rfl, q1, q2⟩ := c1.seq c2 hq
        exact ⟨a, vs, rfl, q1, c4.newL c1 q2.reverse⟩
    · exact c4.not.elim⟩
end
theorem rev_r {m : MH} {n : Nat} {xs : List PV} (h : seq? m n = some xs) : revv (.ref n) m = some (.ref m.length, m ++ [.lst xs.reverse]) := by
  show (seq? m n).map _ = _
  rw [h]; rfl
/-! ## max of a list of ints -/
def maxI : List Int → Option Int
  | [] => none
  | x :: xs => some (xs.foldl (fun a b => if a < b then b else a) x)
theorem foldMax_ge : ∀ (xs : List Int) (x : Int), x ≤ xs.foldl (fun a b => if a < b then b else a) x ∧ ∀ y ∈ xs, y ≤ xs.foldl (fun a b => if a < b then b else a) x
  | [], x => ⟨Int.le_refl _, fun y h => by cases h⟩
  | z :: zs, x => by
    obtain ⟨h1, h2⟩ := foldMax_ge zs (if x < z then z else x)
    rw [List.foldl_cons]
    have h3 : x ≤ (if x < z then z else x) ∧ z ≤ (if x < z then z else x) := by split <;> omega
    refine ⟨by omega, fun y hy => ?_⟩
    rcases List.mem_cons.mp hy with rfl | hy
    · omega
    · exact h2 y hy
theorem foldMax_mem : ∀ (xs : List Int) (x : Int), xs.foldl (fun a b => if a < b then b else a) x = x ∨ xs.foldl (fun a b => if a < b then b else a) x ∈ xs
  | [], x => .inl rfl
  | z :: zs, x => by
    rw [List.foldl_cons]
    rcases foldMax_mem zs (if x < z then z else x) with h | h
    · rw [h]
      split
      · exact .inr List.mem_cons_self
      · exact .inl rfl
    · exact .inr (List.mem_cons_of_mem _ h)
theorem maxI_ok {xs : List Int} {m : Int} (h : maxI xs = some m) : m ∈ xs ∧ ∀ y ∈ xs, y ≤ m := by
  cases xs with
  | nil => cases h
  | cons x xs =>
    cases h
    obtain ⟨h1, h2⟩ := foldMax_ge xs x
    refine ⟨?_, fun y hy => ?_⟩
    · rcases foldMax_mem xs x with h | h
      · rw [h]; exact List.mem_cons_self
      · exact List.mem_cons_of_mem _ h
    · rcases List.mem_cons.mp hy with rfl | hy
      · exact h1
      · exact h2 y hy
def maxLv : List PV → MH → OR
  | [.ref n], m => match seq? m n with
    | some xs => match ints? xs with
      | some ns => (maxI ns).map fun k => (.int k, m)
      | none => none
    | none => none
  | _, _ => none
section
variable {X : Cx}
theorem c_maxL (hc : X.calm = true) : CrQ X (.builtin "max") maxLv := .of fun vs H Q φ m xs h1 h2 h4 => by
  unfold maxLv at h4
  split at h4
  · obtain ⟨v, rfl, r⟩ := h2.one
    rename_i n
    cases hq : seq? m n with
    | none => rw [hq] at h4; exact h4.not.elim
    | some xs =>
      rw [hq] at h4
      obtain ⟨a, ws, rfl, q1, q2⟩ := h1.seq r hq
      dsimp only at h4
      cases hi : ints? xs with
      | none => rw [hi] at h4; exact h4.not.elim
      | some ns =>
        rw [hi] at h4
        dsimp only at h4
        have e := ints_rvs hi q2
        subst e
        cases hm : maxI ns with
        | none => rw [hm] at h4; exact h4.not.elim
        | some k =>
          rw [hm] at h4
          obtain ⟨m1, m2⟩ := maxI_ok hm
          refine ⟨_, cr_max hc, a, ns, rfl, q1, ?_, fun m' hm' hmax => ?_⟩
          · exact List.length_pos_of_mem m1
          · have : m' = k := Int.le_antisymm (m2 m' hm') (hmax k m1)
            subst this
            exact h4.same h1 rfl
  · exact h4.not.elim
end
theorem maxL_r {m : MH} {n : Nat} {ns : List Int} {k : Int} (h : seq? m n = some (ns.map .int)) (hk : maxI ns = some k) : maxLv [.ref n] m = some (.int k, m) := by
  unfold maxLv; dsimp only; rw [h]; dsimp only; rw [ints_map]; dsimp only; rw [hk]; rfl
end SM

set_option Elab.async false
set_option linter.all false
set_option maxRecDepth 100000
set_option maxHeartbeats 2000000
/-! SM19: texts split, int(text), any(list), f-strings, xs += ys, enumerate(list), tuples and dicts that a module names. -/
namespace SM
open PySem PySem.Spec PyProof.Rows L2
/-! ## text.split -/
def splitv : PV → List PV → MH → OR
  | .str a, [.str b], m => if b ≠ [] ∧ b.all (· < 256) = true ∧ a.length + 2 ≤ 16777216 then some (.ref m.length, m ++ [.lst ((TL.spl b 0 [] a).map .str)]) else none
  | _, _, _ => none
theorem rvs_strs {K : PySem.W.Frag} {H : Hp} {φ : List Addr} : ∀ ys : List (List Nat), RVs K H φ (ys.map .str) ((ys.map fun y => (⟨y.toArray⟩ : Str)).map V.str)
  | [] => rfl
  | y :: ys => ⟨_, _, rfl, rfl, rvs_strs ys⟩
section
variable {X : Cx}
theorem m_split : MtQ X "str.split" splitv := .of fun v vs H Q φ m x xs h1 h2 h3 h4 => by
  unfold splitv at h4
  split at h4
  · rename_i a b
    cases h2
    obtain ⟨w, rfl, r⟩ := h3.one
    cases r
    split at h4
    · rename_i hc
      refine ⟨_, mt_split, ⟨a.toArray⟩, ⟨b.toArray⟩, rfl, rfl, ?_, by rw [str_len, sl_eq]; exact hc.2.2, fun p hp => ?_⟩
      · rw [str_len]
        cases b with
        | nil => exact absurd rfl hc.1
        | cons c b => rfl
      · rw [show PySem.Txt.split ⟨a.toArray⟩ ⟨b.toArray⟩ = (TL.spl b 0 [] a).map fun y => (⟨y.toArray⟩ : Str) from SX.split_S hc.1 hc.2.1]
        exact h4.newL h1 (rvs_strs _) p hp
    · exact h4.not.elim
  · exact h4.not.elim
end
/-! ## int of a text, too -/
def intv2 : List PV → MH → OR
  | [.int i], m => some (.int i, m)
  | [.bl b], m => some (.int (if b then 1 else 0), m)
  | [.str s], m => if s.length ≤ 640 then (PySem.intText? ⟨s.toArray⟩).map fun n => (.int n, m) else none
  | _, _ => none
section
variable {X : Cx}
theorem c_int2 : CrQ X (.type "int") intv2 := .of fun vs H Q φ m xs h1 h2 h4 => by
  unfold intv2 at h4
  split at h4
  · obtain ⟨v, rfl, r⟩ := h2.one
    cases r
    exact ⟨_, call_int1, .inl ⟨_, rfl, h4.same h1 rfl⟩⟩
  · obtain ⟨v, rfl, r⟩ := h2.one
    cases r
    exact ⟨_, call_int1, .inr ⟨_, rfl, h4.same h1 rfl⟩⟩
  · obtain ⟨v, rfl, r⟩ := h2.one
    cases r
    split at h4
    · rename_i s hl
      cases hn : PySem.intText? ⟨s.toArray⟩ with
      | none => rw [hn] at h4; exact h4.not.elim
      | some n =>
        rw [hn] at h4
        exact ⟨_, call_int_str, _, n, rfl, hn, by rw [str_len]; exact hl, h4.same h1 rfl⟩
    · exact h4.not.elim
  · exact h4.not.elim
end
/-! ## any of a list of truth values -/
def bools? : List PV → Option (List Bool)
  | [] => some []
  | .bl b :: xs => (bools? xs).map fun r => b :: r
  | _ => none
theorem bools_map (bs : List Bool) : bools? (bs.map .bl) = some bs := by
  induction bs with
  | nil => rfl
  | cons b bs ih => rw [List.map_cons]; unfold bools?; rw [ih]; rfl
theorem bools_rvs {K : PySem.W.Frag} {H : Hp} {φ : List Addr} : ∀ {xs : List PV} {bs : List Bool} {ws : List V}, bools? xs = some bs → RVs K H φ xs ws → ws = bs.map V.bl
  | [], bs, ws, h, r => by cases h; cases r; rfl
  | .bl b :: xs, bs, ws, h, r => by
    unfold bools? at h
    cases hx : bools? xs with
    | none => rw [hx] at h; cases h
    | some r2 =>
      rw [hx] at h
      cases h
      obtain ⟨v, ws, rfl, r1, r3⟩ := r
      cases r1
      rw [bools_rvs hx r3]
      rfl
  | .non :: _, _, _, h, _ => by cases h
  | .int _ :: _, _, _, h, _ => by cases h
  | .str _ :: _, _, _, h, _ => by cases h
  | .tup _ :: _, _, _, h, _ => by cases h
  | .ref _ :: _, _, _, h, _ => by cases h
def anyv : List PV → MH → OR
  | [.ref n], m => match seq? m n with
    | some xs => (bools? xs).map fun bs => (.bl (bs.any id), m)
    | none => none
  | _, _ => none
section
variable {X : Cx}
theorem c_any (hc : X.calm = true) : CrQ X (.builtin "any") anyv := .of fun vs H Q φ m xs h1 h2 h4 => by
  unfold anyv at h4
  split at h4
  · obtain ⟨v, rfl, r⟩ := h2.one
    rename_i n
    cases hq : seq? m n with
    | none => rw [hq] at h4; exact h4.not.elim
    | some xs =>
      rw [hq] at h4
      obtain ⟨a, ws, rfl, q1, q2⟩ := h1.seq r hq
      dsimp only at h4
      cases hb : bools? xs with
      | none => rw [hb] at h4; exact h4.not.elim
      | some bs =>
        rw [hb] at h4
        have e := bools_rvs hb q2
        subst e
        exact ⟨_, cr_any hc, a, bs, rfl, q1, h4.same h1 rfl⟩
  · exact h4.not.elim
end
/-! ## a text in a tuple of texts -/
theorem strs_map (ss : List (List Nat)) : strs? (ss.map .str) = some ss := by
  induction ss with
  | nil => rfl
  | cons b bs ih => rw [List.map_cons]; unfold strs?; rw [ih]; rfl
def inTv : PV → PV → MH → OR
  | .str s, .tup xs, m => (strs? xs).map fun ss => (.bl (decide (s ∈ ss)), m)
  | _, _, _ => none
theorem inV_strs {s : List Nat} {ss : List (List Nat)} : _root_.L2.inV (V.str ⟨s.toArray⟩) ((ss.map fun y => (⟨y.toArray⟩ : Str)).map V.str) = decide (s ∈ ss) := by
  unfold L2.inV
  rw [List.map_map, List.any_map]
  refine any_mem ?_
  constructor
  · rintro ⟨u, h1, h2⟩
    have h2 : ((⟨u.toArray⟩ : Str) == ⟨s.toArray⟩) = true := h2
    rw [arr_inj] at h2
    exact (of_decide_eq_true h2) ▸ h1
  · intro h
    exact ⟨s, h, show ((⟨s.toArray⟩ : Str) == ⟨s.toArray⟩) = true by rw [arr_inj]; exact decide_eq_true rfl⟩
section
variable {X : Cx}
theorem o_inT : OpQ X (compareOp .In) inTv := .of_eq fun v w H Q φ m x y a1 a2 a3 a4 => by
  unfold inTv at a4
  split at a4
  · rename_i s xs
    cases a2
    obtain ⟨a, vs, rfl, q1, q2⟩ := a3
    cases hs : strs? xs with
    | none => rw [hs] at a4; exact a4.not.elim
    | some ss =>
      rw [hs] at a4
      have e := strs_rvs hs q2
      subst e
      refine ⟨_, op_in_seq, a, _, rfl, .inr q1, rfl, ?_, ?_⟩
      · rw [List.all_map]; exact List.all_eq_true.mpr fun _ _ => rfl
      · rw [if_neg (by decide), inV_strs]
        exact a4.same a1 rfl
  · exact a4.not.elim
end
/-! ## f-strings of texts and ints -/
def fmtv : PV → MH → OR
  | .str s, m => if s.length ≤ 16777216 then some (.str s, m) else none
  | .int i, m => if i.natAbs.log2 < 1920 then some (.str (dec i), m) else none
  | _, _ => none
def jsK (k : List Nat → SE) (acc : List Nat) : Loc → PV → MH → R PV := fun l x m1 => match x with
  | .str y => if (acc ++ y).length ≤ 16777216 then k (acc ++ y) l m1 else .bad
  | _ => .bad
def sJs : List SE → List Nat → SE
  | [], acc => fun _ m => .ok (.str acc) m
  | p :: ps, acc => fun l m => (p l m).bind fun x m1 => jsK (sJs ps) acc l x m1
inductive QJ (X : Cx) (W : XM) : List Expr → List SE → Prop where
  | nil : QJ X W [] []
  | cons {e : Expr} {s : SE} {es : List Expr} {ss : List SE} (h : QE X W e s) (r : QJ X W es ss) : QJ X W (e :: es) (s :: ss)
section
variable {X : Cx} {W : XM} {e : Expr} {se : SE} {pos : Pos}
theorem q_fmt (he : QE X W e se) : QE X W (.FormattedValue e (-1) none pos) (sUn fmtv se) :=
  ⟨pe_imp (pe_fmt he.pe) fun σ H Q h => (one h).mono fun v H1 ⟨φ, m, x, _, c1, c2, c3⟩ => by
    have c4 := PostO.of c3
    unfold fmtv at c4
    split at c4
    · rename_i s
      cases c2
      split at c4
      · rename_i hz
        exact .inl ⟨_, rfl, by rw [str_len, sl_eq]; exact hz, c4.same c1 rfl⟩
      · exact c4.not.elim
    · rename_i i
      cases c2
      split at c4
      · rename_i hz
        exact .inr ⟨_, rfl, hz, c4.same c1 (show V.str _ = V.str _ by unfold dec; rw [Array.toArray_toList])⟩
      · exact c4.not.elim
    · exact c4.not.elim⟩
theorem qj_pj {es : List Expr} {ss : List SE} (h : QJ X W es ss) : PJ X es (ss.map fun s => Rdg X.K (rV X.K) W s) := by
  induction h with
  | nil => exact .nil
  | cons h _ ih => exact .cons h.pe ih
theorem js_run : ∀ (ss : List SE) (acc : List Nat) (σ : L2.St) (H : Hp) (Q : VK), Rdg X.K (rV X.K) W (sJs ss acc) σ H Q → tJs (ss.map fun s => Rdg X.K (rV X.K) W s) ⟨acc.toArray⟩ σ H fun out H1 => Q (.str out) H1
  | [], acc, σ, H, Q, ⟨φ, l, m, h1, h2, h3⟩ => h3 φ H _ Ext.refl h1 rfl
  | p :: ps, acc, σ, H, Q, h => by
    refine (oneL (k := jsK (sJs ps) acc) h).mono fun v H1 ⟨φ, m, x, l, c1, c2, c3, c4⟩ => ?_
    unfold jsK at c4
    split at c4
    · rename_i y
      cases c3
      split at c4
      · rename_i hz
        have ea : (⟨acc.toArray⟩ : Str) ++ (⟨y.toArray⟩ : Str) = ⟨(acc ++ y).toArray⟩ := str_app ..
        refine ⟨_, rfl, ?_, ?_⟩
        · rw [ea, str_len, sl_eq]; exact hz
        · rw [ea]
          exact js_run ps (acc ++ y) σ H1 Q ⟨φ, l, m, c1, c2, c4⟩
      · exact c4.elim
    · exact c4.elim
theorem q_fstr {v1 v2 : Expr} {rest : List Expr} {ss : List SE} (h : QJ X W (v1 :: v2 :: rest) ss) : QE X W (.JoinedStr (v1 :: v2 :: rest) pos) (sJs ss []) :=
  ⟨pe_imp (pe_joined (qj_pj h)) fun σ H Q q => js_run ss [] σ H Q q⟩
end
/-! ## xs += ys -/
def iaddL : PV → PV → MH → OR
  | .ref i, .ref j, m => match m[i]?, m[j]? with
    | some (.lst xs), some (.lst ys) => if xs.length + ys.length ≤ 16777216 then some (.ref i, m.set i (.lst (xs ++ ys))) else none
    | _, _ => none
  | _, _, _ => none
section
variable {X : Cx}
theorem ia_lst : PIpQ X .Add iaddL := by
  intro pins s σ H v w vv ww Q I rv rw' ⟨φ, m, x, y, h1, h2, h3, h4⟩
  unfold iaddL at h4
  split at h4
  · rename_i i j
    split at h4
    · rename_i xs ys hi hj
      split at h4
      · rename_i hz
        obtain ⟨a, ha, rfl⟩ := h2
        obtain ⟨b, hb, rfl⟩ := h3
        obtain ⟨ws, p1, p2⟩ := h1.obj i a _ ha hi
        obtain ⟨us, q1, q2⟩ := h1.obj j b _ hb hj
        obtain ⟨z, m', e, q⟩ := h4
        cases e
        refine iop_ext pins s σ H _ _ vv ww Q I rv rw' ⟨a, b, ws, us, rfl, rfl, p1, q1, by rw [p2.length, q2.length, sl_eq]; exact hz, ?_⟩
        obtain ⟨e2, e3⟩ := h1.setL ha hi (p2.append q2)
        exact q _ _ _ e2 e3 ⟨a, ha, rfl⟩
      · exact h4.not.elim
    · exact h4.not.elim
  · exact h4.not.elim
end
/-! ## tuples that a module names -/
def KV (K : PySem.W.Frag) (x : PV) (v : V) : Prop := ∀ H φ, RV K H φ x v
def KVs (K : PySem.W.Frag) (xs : List PV) (vs : List V) : Prop := ∀ H φ, RVs K H φ xs vs
theorem rel_ref {a : Addr} : RelV (V.ref a) (Value.ref a) := rfl
theorem rel_str {x : Str} {t : Tok} : RelV (V.str x) (Value.str x t) := ⟨t, rfl⟩
theorem rel_int {i : Int} {t : Tok} : RelV (V.int i) (Value.int i t) := ⟨t, rfl⟩
theorem kv_nil {K : PySem.W.Frag} : KVs K [] [] := fun _ _ => rfl
theorem kv_cons {K : PySem.W.Frag} {x : PV} {v : V} {xs : List PV} {vs : List V} (h : KV K x v) (r : KVs K xs vs) : KVs K (x :: xs) (v :: vs) := fun H φ => ⟨v, vs, rfl, h H φ, r H φ⟩
theorem kv_str {K : PySem.W.Frag} {s : List Nat} : KV K (.str s) (.str ⟨s.toArray⟩) := fun _ _ => rfl
theorem kv_int {K : PySem.W.Frag} {i : Int} : KV K (.int i) (.int i) := fun _ _ => rfl
theorem kv_tup {K : PySem.W.Frag} {a : Addr} {od : Option Addr} {its : Array Value} {n : Nat} {sl : Array (Option Value)} {xs : List PV} {vs : List V} (h : K.lookup a = some ⟨.type "tuple", od, .seq its n, sl⟩) (hz : its.size ≤ sizeLine) (hv : Vals vs its.toList) (hk : KVs K xs vs) : KV K (.tup xs) (.ref a) :=
  fun H φ => ⟨a, vs, rfl, .inr ⟨_, its, n, h, rfl, rfl, hz, hv⟩, hk H φ⟩
section
variable {X : Cx} {W : XM} {pos : Pos}
theorem q_globV {x : Str} {u : Value} {v : V} {y : PV} (hg : Gl X x) (hm : X.mg x = some u) (hr : RelV v u) (hk : KV X.K y v) (hd : (x == ("__debug__" : Str)) = false := by decide) : QE X W (.Name x pos) (sC y) :=
  ⟨pe_imp (pe_glob hg hm hr hd) fun σ H Q ⟨φ, l, m, h1, h2, h3⟩ => h3 φ H _ Ext.refl h1 (hk H φ)⟩
end
/-! ## dicts that a module names, with texts as keys -/
structure KTab (K : PySem.W.Frag) (w : World) (d : Addr) (T : List (List Nat × Option PV)) : Prop where
  dk : ∃ es n, KDict K w d es n
  ok : ∀ p ∈ T, match p.2 with
    | none => PySem.W.nsIn K d ⟨p.1.toArray⟩ = some none
    | some x => ∃ u v, PySem.W.nsIn K d ⟨p.1.toArray⟩ = some (some u) ∧ RelV v u ∧ KV K x v
def tabGet (T : List (List Nat × Option PV)) (s : List Nat) : Option (Option PV) := (T.find? fun p => decide (p.1 = s)).map (·.2)
theorem tab_mem {T : List (List Nat × Option PV)} {s : List Nat} {r : Option PV} (h : tabGet T s = some r) : (s, r) ∈ T := by
  unfold tabGet at h
  obtain ⟨p, h1, h2⟩ := Option.map_eq_some_iff.mp h
  have h3 := List.find?_some h1
  simp at h3
  have := List.mem_of_find?_eq_some h1
  rw [← h2, ← h3]
  exact this
def kinv (T : List (List Nat × Option PV)) : PV → MH → OR
  | .str s, m => (tabGet T s).map fun r => (.bl r.isSome, m)
  | _, _ => none
def kgetv (T : List (List Nat × Option PV)) : PV → MH → OR
  | .str s, m => match tabGet T s with
    | some (some x) => some (x, m)
    | _ => none
  | _, _ => none
section
variable {X : Cx} {W : XM} {e : Expr} {se : SE} {x : Str} {d : Addr} {T : List (List Nat × Option PV)} {p pos : Pos}
theorem q_inK (hg : Gl X x) (hm : X.mg x = some (.ref d)) (ht : KTab X.K X.w d T) (he : QE X W e se) (hb : behindInMarks .In (.Name x p) = false) (hd : (x == ("__debug__" : Str)) = false := by decide) : QE X W (.Compare e [.In] [.Name x p] pos) (sUn (kinv T) se) := by
  obtain ⟨es, n, D⟩ := ht.dk
  refine ⟨pe_imp (pe_cmpR (op_in_kd D) he.pe (pe_glob (v := .ref d) hg hm rfl hd) hb) fun σ H Q h => (one h).mono fun v H1 ⟨φ, m, x, _, c1, c2, c3⟩ => ?_⟩
  have c4 := PostO.of c3
  unfold kinv at c4
  split at c4
  · rename_i s
    cases c2
    cases hr : tabGet T s with
    | none => rw [hr] at c4; exact c4.not.elim
    | some r =>
      rw [hr] at c4
      have ok := ht.ok _ (tab_mem hr)
      cases r with
      | none => exact ⟨_, none, rfl, rfl, ok, c4.same c1 rfl⟩
      | some x =>
        obtain ⟨u, v, e1, e2, e3⟩ := ok
        exact ⟨_, some u, rfl, rfl, e1, c4.same c1 rfl⟩
  · exact c4.not.elim
theorem t_inK (hg : Gl X x) (hm : X.mg x = some (.ref d)) (ht : KTab X.K X.w d T) (he : QE X W e se) (hb : behindInMarks .In (.Name x p) = false) (hd : (x == ("__debug__" : Str)) = false := by decide) : QT X W (.Compare e [.In] [.Name x p] pos) (tBool (sUn (kinv T) se)) := by
  obtain ⟨es, n, D⟩ := ht.dk
  refine ⟨pt_imp (pt_cmpR (op_in_kd D) he.pe (pe_glob (v := .ref d) hg hm rfl hd) hb) fun σ H Q h => (one (Rdg.asB' h)).mono fun v H1 ⟨φ, m, x, _, c1, c2, c3⟩ => ?_⟩
  have c4 := PostO.of c3
  unfold kinv at c4
  split at c4
  · rename_i s
    cases c2
    cases hr : tabGet T s with
    | none => rw [hr] at c4; exact c4.not.elim
    | some r =>
      rw [hr] at c4
      have ok := ht.ok _ (tab_mem hr)
      cases r with
      | none => exact ⟨_, none, rfl, rfl, ok, c4.same c1 rfl⟩
      | some x =>
        obtain ⟨u, v, e1, e2, e3⟩ := ok
        exact ⟨_, some u, rfl, rfl, e1, c4.same c1 rfl⟩
  · exact c4.not.elim
end
section
variable {X : Cx} {W : XM} {e : Expr} {se : SE} {x : Str} {d : Addr} {T : List (List Nat × Option PV)} {p pos : Pos}
theorem q_getK (hg : Gl X x) (hm : X.mg x = some (.ref d)) (ht : KTab X.K X.w d T) (he : QE X W e se) (hs : PlainIx e) (hd : (x == ("__debug__" : Str)) = false := by decide) : QE X W (.Subscript (.Name x p) e pos) (sUn (kgetv T) se) := by
  obtain ⟨es, n, D⟩ := ht.dk
  refine ⟨pe_imp (pe_ix ix_kdict (pe_glob (v := .ref d) hg hm rfl hd) he.pe hs) fun σ H Q h => (one h).mono fun v H1 ⟨φ, m, x, _, c1, c2, c3⟩ => ?_⟩
  have c4 := PostO.of c3
  unfold kgetv at c4
  split at c4
  · rename_i s
    cases c2
    split at c4
    · rename_i x hr
      obtain ⟨u, v, e1, e2, e3⟩ := ht.ok _ (tab_mem hr)
      exact ⟨d, _, v, rfl, rfl, ⟨es, n, u, D.at_, D.lit, e1, e2⟩, c4.same c1 (e3 H1 φ)⟩
    · exact c4.not.elim
  · exact c4.not.elim
end
/-! ## enumerate(list) -/
open Classical in
noncomputable def forLE (n : Nat) (xs : List PV) (g : STg) (body : SS) : List PV → Loc → MH → RS
  | [], l, m => if seq? m n = some xs then .nx l m else .bad
  | x :: r, l, m => if seq? m n = some xs then match g x l m with
      | some (l1, m1) => match body l1 m1 with
        | .nx l2 m2 => forLE n xs g body r l2 m2
        | .ct l2 m2 => forLE n xs g body r l2 m2
        | .bk l2 m2 => .nx l2 m2
        | r => r
      | none => .bad
    else .bad
noncomputable def enO (g : STg) (body : SS) (n : Nat) : Option (List PV) → Loc → MH → RS
  | some xs, l, m => forLE n xs g body (enumI xs) l m
  | none, _, _ => .bad
noncomputable def enB (g : STg) (body : SS) : PV → Loc → MH → RS
  | .ref n, l, m => enO g body n (seq? m n) l m
  | _, _, _ => .bad
noncomputable def xForEL (se : SE) (g : STg) (body : SS) : SS := fun l m => R.then l (se l m) fun x m1 => enB g body x l m1
theorem enB_r {g : STg} {body : SS} {n : Nat} {l : Loc} {m : MH} : enB g body (.ref n) l m = enO g body n (seq? m n) l m := rfl
theorem enO_s {g : STg} {body : SS} {n : Nat} {xs : List PV} {l : Loc} {m : MH} : enO g body n (some xs) l m = forLE n xs g body (enumI xs) l m := rfl
theorem enO_n {g : STg} {body : SS} {n : Nat} {l : Loc} {m : MH} : enO g body n none l m = .bad := rfl
theorem enB_ref {g : STg} {body : SS} {x : PV} {l : Loc} {m : MH} {K : PySem.W.Frag} {W : XM} {φ : List Addr} {H : Hp} {D : Ends} (h : PostS K W φ H (enB g body x l m) D) : ∃ n, x = .ref n := by
  cases x with
  | ref n => exact ⟨n, rfl⟩
  | _ => exact h.elim
section
variable {X : Cx} {W : XM} {e : Expr} {body : List Stmt} {g : STg} {sb : SS} {se : SE} {elts : List Expr} {kk : Nat} {tpos p cpos pos : Pos}
theorem walk_enL {K : PySem.W.Frag} {φ' : List Addr} {H' : Hp} {n : Nat} {a : Addr} {xs : List PV} (ha : φ'[n]? = some a) : Walk (Ite K a) xs.length (fun H2 => ∃ φ2 m2, Ext K φ' H' φ2 H2 ∧ RH K H2 φ2 m2 ∧ seq? m2 n = some xs)
    (fun i H2 v H3 => ∃ T y, v = .ref T ∧ H2 T = none ∧ H3 = upd H2 T (.tup [.int (i : Nat), y]) ∧ ∀ φ2 m2, Ext K φ' H' φ2 H2 → RH K H2 φ2 m2 → seq? m2 n = some xs → ∃ px, xs[i]? = some px ∧ RV K H2 φ2 px y) := by
  have at_ : ∀ H2 φ2 m2, Ext K φ' H' φ2 H2 → RH K H2 φ2 m2 → seq? m2 n = some xs → ∃ vs, SqL K H2 a vs ∧ RVs K H2 φ2 xs vs := fun H2 φ2 m2 x r q => by
    obtain ⟨b, vs, e1, e2, e3⟩ := r.seq (v := .ref a) ⟨a, x.get ha, rfl⟩ q
    cases e1
    exact ⟨vs, e2, e3⟩
  refine ⟨fun i H2 hi ⟨φ2, m2, x, r, q⟩ => ?_, fun H2 ⟨φ2, m2, x, r, q⟩ => ?_, fun i H2 v H3 hi _ y => ?_⟩
  · obtain ⟨vs, e2, e3⟩ := at_ H2 φ2 m2 x r q
    have hl := e3.length
    exact ⟨vs, vs[i]'(by omega), e2, List.getElem?_eq_getElem (by omega)⟩
  · obtain ⟨vs, e2, e3⟩ := at_ H2 φ2 m2 x r q
    exact ⟨vs, e2, Nat.le_of_eq e3.length⟩
  · obtain ⟨T, y, h1, h2, h3, h4⟩ := y
    refine ⟨T, y, h1, h2, h3, fun φ2 m2 x r q => ?_⟩
    obtain ⟨vs, e2, e3⟩ := at_ H2 φ2 m2 x r q
    have hy := h4 vs e2
    obtain ⟨px, e1⟩ : ∃ px, xs[i]? = some px := ⟨xs[i]'hi, List.getElem?_eq_getElem hi⟩
    obtain ⟨y', e4, ry⟩ := e3.get e1
    rw [hy] at e4
    cases e4
    exact ⟨px, e1, ry⟩
theorem x_forEL (hp : PassesOwn (model X.prog X.w) X.A X.env X.xe) (hc : X.calm = true) (hgE : Gl X "enumerate") (hm : X.mg "enumerate" = none) (he : QE X W e se) (hg : QG X (.Tuple elts kk tpos) g) (hb : QSs X W body sb)
    (hs1 : starEach [e] X.env = [(false, eval e X.env)] := by rfl) (hs : ∀ x, foldedSetIterable (.Call (.Name "enumerate" p) [e] [] cpos) X.env x = pure x := by intro _; rfl) :
    QS X W (.For (.Tuple elts kk tpos) (.Call (.Name "enumerate" p) [e] [] cpos) body [] pos) (xForEL se g sb) := ⟨ps_imp (ps_for hp hc (pi_enum hgE hm (pa_cons he.pe pa_nil (by rw [hs1] <;> rfl)) hs1) hg.pg hb.ps hs) fun D σ H ⟨φ, l, m, h1, h2, h3⟩ => by
  refine ⟨φ, l, m, h1, h2, (PostS.then (rel := rV X.K) h2 h3).mono ?_⟩
  rintro v H' ⟨φ', x, m', x0, a0, b0, r0, d0⟩
  obtain ⟨n, rfl⟩ := enB_ref d0
  rw [enB_r] at d0
  cases hq : seq? m' n with
  | none => rw [hq, enO_n] at d0; exact d0.elim
  | some xs =>
    rw [hq, enO_s] at d0
    obtain ⟨a, vs, rfl, q1, q2⟩ := a0.seq r0 hq
    have han : φ'[n]? = some a := by obtain ⟨b, e1, e2⟩ := r0; cases e2; exact e1
    refine ⟨a, vs, rfl, q1, ?_⟩
    refine for_it (walk_enL (xs := xs) (H' := H') han) (fun i σ2 H2 => ∃ φ2 l2 m2, Ext X.K φ' H' φ2 H2 ∧ RH X.K H2 φ2 m2 ∧ RL X.K H2 φ2 l2 σ2 ∧ PostS X.K W φ2 H2 (forLE n xs g sb ((enumI xs).drop i) l2 m2) D) ⟨φ', l, m', Ext.refl, a0, b0, d0⟩ ?_ ?_ ?_
    · rintro i σ2 H2 hi ⟨φ2, l2, m2, x2, a2, b2, c2⟩
      refine ⟨φ2, m2, x2, a2, ?_⟩
      cases hd : (enumI xs).drop i with
      | nil =>
        rw [hd] at c2
        unfold forLE at c2
        by_cases hk : seq? m2 n = some xs
        · exact hk
        · rw [if_neg hk] at c2; exact c2.elim
      | cons x r =>
        rw [hd] at c2
        unfold forLE at c2
        by_cases hk : seq? m2 n = some xs
        · exact hk
        · rw [if_neg hk] at c2; exact c2.elim
    · rintro i v σ2 H2 H3 hi ⟨φ2, l2, m2, x2, a2, b2, c2⟩ ⟨T, y, rfl, hT, rfl, hy⟩
      have hi' : i < (enumI xs).length := by rw [enumI_len]; exact hi
      rw [List.drop_eq_getElem_cons hi'] at c2
      unfold forLE at c2
      by_cases hk : seq? m2 n = some xs
      · rw [if_pos hk] at c2
        obtain ⟨px, e1, ry⟩ := hy φ2 m2 x2 a2 hk
        obtain ⟨f1, f2, f3⟩ := a2.newT (xs := [.int (i : Nat), px]) (vs := [.int (i : Nat), y]) hT ⟨_, _, rfl, rfl, _, _, rfl, ry, rfl⟩
        have eg : (enumI xs)[i] = .tup [.int (i : Nat), px] := by
          have := enumI_get e1
          rw [List.getElem?_eq_getElem hi'] at this
          exact Option.some.inj this
        rw [eg] at c2
        cases hgx : g (.tup [.int (i : Nat), px]) l2 m2 with
        | none => rw [hgx] at c2; exact c2.elim
        | some p =>
          obtain ⟨l3, m3⟩ := p
          rw [hgx] at c2
          dsimp only at c2
          refine ⟨φ2, l2, m2, _, f2, b2.ext f1, f3, l3, m3, hgx, fun φ3 σ3 H3 x3 a3 b3 => ⟨φ3, l3, m3, a3, b3, ?_⟩⟩
          have c3 := PostS.ext (f1.trans x3) c2
          cases hb : sb l3 m3 with
          | nx l4 m4 =>
            rw [hb] at c3
            exact fun φ4 σ4 H4 x4 a4 b4 => ⟨φ4, l4, m4, ((x2.trans f1).trans x3).trans x4, a4, b4, PostS.ext x4 c3⟩
          | ct l4 m4 =>
            rw [hb] at c3
            exact fun φ4 σ4 H4 x4 a4 b4 => ⟨φ4, l4, m4, ((x2.trans f1).trans x3).trans x4, a4, b4, PostS.ext x4 c3⟩
          | bk l4 m4 => rw [hb] at c3; exact c3
          | rt x m4 => rw [hb] at c3; exact c3
          | ex c fs l4 m4 => rw [hb] at c3; exact c3
          | bad => rw [hb] at c3; exact c3
      · rw [if_neg hk] at c2; exact c2.elim
    · rintro σ2 H2 ⟨φ2, l2, m2, x2, a2, b2, c2⟩
      rw [List.drop_of_length_le (by rw [enumI_len]; exact Nat.le_refl _)] at c2
      unfold forLE at c2
      by_cases hk : seq? m2 n = some xs
      · rw [if_pos hk] at c2
        exact c2 φ2 σ2 H2 Ext.refl a2 b2
      · rw [if_neg hk] at c2; exact c2.elim⟩
end
end SM

set_option Elab.async false
set_option linter.all false
set_option maxRecDepth 100000
set_option maxHeartbeats 2000000
/-! SM20: enumerate(list or tuple), .. -/
namespace SM
open PySem PySem.Spec PyProof.Rows L2
/-! ## enumerate of what is a list or a tuple -/
def iEnB (K : PySem.W.Frag) (ta : TA) : TI := fun σ H R => ta σ H fun vs H1 => ∃ a xs, vs = [.ref a] ∧ ((SqL K H1 a xs ∧ R (Ite K a) H1) ∨ (SqT K H1 a xs ∧ R (ItE K a) H1))
theorem pi_enB {X : Cx} {e : Expr} {ta : TA} {p pos tpos : Pos} {elts : List Expr} {kk : Nat} (hg : Gl X "enumerate") (hm : X.mg "enumerate" = none) (ha : PA X [e] ta) (hs : starEach [e] X.env = [(false, eval e X.env)] := by rfl) :
    PI X (.Tuple elts kk tpos) (.Call (.Name "enumerate" p) [e] [] pos) (iEnB X.K ta) := by
  refine ⟨fun pins s σ H R I h => ?_⟩
  refine Call_ (ld_blt I hg hm boot_enumerate (PyProof.Rows.callWith_type1 (thn (ha.run pos pins s σ H _ I h) fun us s1 ⟨vs, H1, I1, r1, q1⟩ => ?_) hs rfl))
  obtain ⟨a, xs, ex, hqq⟩ := q1
  subst ex
  cases r1 with
  | cons r rr =>
    cases rr
    cases r
    rcases hqq with ⟨hq, q⟩ | ⟨hq, q⟩
    · obtain ⟨its, rv, p', hz⟩ := I1.list hq
      refine call_enumerate_list p'.isList fun h' he hit hsz hk => wpAny_pyIter_enum he ?_
      have I2 : Inv X pins σ H1 { s1 with heap := h' } := I1.kept (t' := s1.toks) hk
      refine ⟨s1.heap.objs.size + 1, [s1.heap.objs.size + 1, s1.heap.objs.size], _, _, H1, rfl, I2, turn_enum a (s1.heap.objs.size + 1) s1.heap.objs.size, ⟨⟨.none, he⟩, hit, Nat.succ_ne_self _⟩, fun b hb => ?_, q⟩
      have e' : b = s1.heap.objs.size + 1 ∨ b = s1.heap.objs.size := by simpa using hb
      have hle : s1.heap.objs.size ≤ b := by
        rcases e' with z | z
        · rw [z]; exact Nat.le_add_right _ _
        · rw [z]; exact Nat.le_refl _
      exact I1.fpOk hle (I1.hok.fresh hle)
    · obtain ⟨its, rv, p', hz⟩ := I1.tuple hq
      have ht : s1.heap.IsTuple a its.toArray := p'
      have hal : a < s1.heap.objs.size := by obtain ⟨o, ho, _⟩ := ht; exact Heap.lt_size ho
      refine call_enT (begins_tuple a its.toArray) ht fun h' he hit hsz hk => wpAny_pyIter_enum he ?_
      have I2 : Inv X pins σ H1 { s1 with heap := h' } := I1.kept (t' := s1.toks) hk
      refine ⟨s1.heap.objs.size + 1, [s1.heap.objs.size + 1, s1.heap.objs.size], _, _, H1, rfl, I2, turn_enT a (s1.heap.objs.size + 1) s1.heap.objs.size, ⟨⟨.none, he⟩, ⟨_, hit, rfl, rfl⟩, Nat.succ_ne_self _, Nat.ne_of_gt (Nat.lt_succ_of_lt hal), Nat.ne_of_gt hal⟩, fun b hb => ?_, q⟩
      have e' : b = s1.heap.objs.size + 1 ∨ b = s1.heap.objs.size := by simpa using hb
      have hle : s1.heap.objs.size ≤ b := by
        rcases e' with z | z
        · rw [z]; exact Nat.le_add_right _ _
        · rw [z]; exact Nat.le_refl _
      exact I1.fpOk hle (I1.hok.fresh hle)
noncomputable def xForEB (se : SE) (g : STg) (body : SS) : SS := fun l m => R.then l (se l m) fun x m1 => match x with
  | .tup xs => forL ⟨enumI xs, none⟩ g body (enumI xs) l m1
  | x => enB g body x l m1
section
variable {X : Cx} {W : XM} {e : Expr} {body : List Stmt} {g : STg} {sb : SS} {se : SE} {elts : List Expr} {kk : Nat} {tpos p cpos pos : Pos}
theorem x_forEB (hp : PassesOwn (model X.prog X.w) X.A X.env X.xe) (hc : X.calm = true) (hgE : Gl X "enumerate") (hm : X.mg "enumerate" = none) (he : QE X W e se) (hg : QG X (.Tuple elts kk tpos) g) (hb : QSs X W body sb)
    (hs1 : starEach [e] X.env = [(false, eval e X.env)] := by rfl) (hs : ∀ x, foldedSetIterable (.Call (.Name "enumerate" p) [e] [] cpos) X.env x = pure x := by intro _; rfl) :
    QS X W (.For (.Tuple elts kk tpos) (.Call (.Name "enumerate" p) [e] [] cpos) body [] pos) (xForEB se g sb) := ⟨ps_imp (ps_for hp hc (pi_enB hgE hm (pa_cons he.pe pa_nil (by rw [hs1] <;> rfl)) hs1) hg.pg hb.ps hs) fun D σ H ⟨φ, l, m, h1, h2, h3⟩ => by
  refine ⟨φ, l, m, h1, h2, (PostS.then (rel := rV X.K) h2 h3).mono ?_⟩
  rintro v H' ⟨φ', x, m', x0, a0, b0, r0, d0⟩
  match x, r0, d0 with
  | .tup xs, r0, d0 =>
    obtain ⟨a, vs, rfl, q1, q2⟩ := r0
    refine ⟨a, vs, rfl, .inr ⟨q1, ?_⟩⟩
    have hlen : vs.length = xs.length := q2.length
    have d0 : PostS X.K W φ' H' (forL ⟨enumI xs, none⟩ g sb (enumI xs) l m') D := d0
    refine for_it (walk_enT (xs := vs)) (fun i σ2 H2 => ∃ φ2 l2 m2, Ext X.K φ' H' φ2 H2 ∧ RH X.K H2 φ2 m2 ∧ RL X.K H2 φ2 l2 σ2 ∧ PostS X.K W φ2 H2 (forL ⟨enumI xs, none⟩ g sb ((enumI xs).drop i) l2 m2) D) ⟨φ', l, m', Ext.refl, a0, b0, d0⟩ ?_ ?_ ?_
    · rintro i σ2 H2 hi ⟨φ2, l2, m2, x2, a2, b2, c2⟩
      exact x2.tup _ _ q1
    · rintro i v σ2 H2 H3 hi ⟨φ2, l2, m2, x2, a2, b2, c2⟩ ⟨T, y, rfl, hT, rfl, hy⟩
      obtain ⟨px, e1⟩ : ∃ px, xs[i]? = some px := ⟨xs[i]'(by omega), List.getElem?_eq_getElem (by omega)⟩
      obtain ⟨y', e2, ry⟩ := q2.get e1
      rw [hy] at e2
      cases e2
      obtain ⟨f1, f2, f3⟩ := a2.newT (xs := [.int (i : Nat), px]) (vs := [.int (i : Nat), y]) hT ⟨_, _, rfl, rfl, _, _, rfl, RV.ext x2 ry, rfl⟩
      have hi' : i < (enumI xs).length := by rw [enumI_len]; omega
      rw [List.drop_eq_getElem_cons hi'] at c2
      have eg : (enumI xs)[i] = .tup [.int (i : Nat), px] := by
        have := enumI_get e1
        rw [List.getElem?_eq_getElem hi'] at this
        exact Option.some.inj this
      rw [eg] at c2
      unfold forL at c2
      rw [if_pos (show ITM.ok ⟨enumI xs, none⟩ m2 from trivial)] at c2
      cases hgx : g (.tup [.int (i : Nat), px]) l2 m2 with
      | none => rw [hgx] at c2; exact c2.elim
      | some p =>
        obtain ⟨l3, m3⟩ := p
        rw [hgx] at c2
        dsimp only at c2
        refine ⟨φ2, l2, m2, _, f2, b2.ext f1, f3, l3, m3, hgx, fun φ3 σ3 H3 x3 a3 b3 => ⟨φ3, l3, m3, a3, b3, ?_⟩⟩
        have c3 := PostS.ext (f1.trans x3) c2
        cases hb : sb l3 m3 with
        | nx l4 m4 =>
          rw [hb] at c3
          exact fun φ4 σ4 H4 x4 a4 b4 => ⟨φ4, l4, m4, ((x2.trans f1).trans x3).trans x4, a4, b4, PostS.ext x4 c3⟩
        | ct l4 m4 =>
          rw [hb] at c3
          exact fun φ4 σ4 H4 x4 a4 b4 => ⟨φ4, l4, m4, ((x2.trans f1).trans x3).trans x4, a4, b4, PostS.ext x4 c3⟩
        | bk l4 m4 => rw [hb] at c3; exact c3
        | rt x m4 => rw [hb] at c3; exact c3
        | ex c fs l4 m4 => rw [hb] at c3; exact c3
        | bad => rw [hb] at c3; exact c3
    · rintro σ2 H2 ⟨φ2, l2, m2, x2, a2, b2, c2⟩
      rw [List.drop_of_length_le (by rw [enumI_len]; omega)] at c2
      unfold forL at c2
      rw [if_pos (show ITM.ok ⟨enumI xs, none⟩ m2 from trivial)] at c2
      exact c2 φ2 σ2 H2 Ext.refl a2 b2
  | .ref n, r0, d0 =>
    have d0 : PostS X.K W φ' H' (enB g sb (.ref n) l m') D := d0
    rw [enB_r] at d0
    cases hq : seq? m' n with
    | none => rw [hq, enO_n] at d0; exact d0.elim
    | some xs =>
      rw [hq, enO_s] at d0
      obtain ⟨a, vs, rfl, q1, q2⟩ := a0.seq r0 hq
      have han : φ'[n]? = some a := by obtain ⟨b, e1, e2⟩ := r0; cases e2; exact e1
      refine ⟨a, vs, rfl, .inl ⟨q1, ?_⟩⟩
      refine for_it (walk_enL (xs := xs) (H' := H') han) (fun i σ2 H2 => ∃ φ2 l2 m2, Ext X.K φ' H' φ2 H2 ∧ RH X.K H2 φ2 m2 ∧ RL X.K H2 φ2 l2 σ2 ∧ PostS X.K W φ2 H2 (forLE n xs g sb ((enumI xs).drop i) l2 m2) D) ⟨φ', l, m', Ext.refl, a0, b0, d0⟩ ?_ ?_ ?_
      · rintro i σ2 H2 hi ⟨φ2, l2, m2, x2, a2, b2, c2⟩
        refine ⟨φ2, m2, x2, a2, ?_⟩
        cases hd : (enumI xs).drop i with
        | nil =>
          rw [hd] at c2
          unfold forLE at c2
          by_cases hk : seq? m2 n = some xs
          · exact hk
          · rw [if_neg hk] at c2; exact c2.elim
        | cons x r =>
          rw [hd] at c2
          unfold forLE at c2
          by_cases hk : seq? m2 n = some xs
          · exact hk
          · rw [if_neg hk] at c2; exact c2.elim
      · rintro i v σ2 H2 H3 hi ⟨φ2, l2, m2, x2, a2, b2, c2⟩ ⟨T, y, rfl, hT, rfl, hy⟩
        have hi' : i < (enumI xs).length := by rw [enumI_len]; exact hi
        rw [List.drop_eq_getElem_cons hi'] at c2
        unfold forLE at c2
        by_cases hk : seq? m2 n = some xs
        · rw [if_pos hk] at c2
          obtain ⟨px, e1, ry⟩ := hy φ2 m2 x2 a2 hk
          obtain ⟨f1, f2, f3⟩ := a2.newT (xs := [.int (i : Nat), px]) (vs := [.int (i : Nat), y]) hT ⟨_, _, rfl, rfl, _, _, rfl, ry, rfl⟩
          have eg : (enumI xs)[i] = .tup [.int (i : Nat), px] := by
            have := enumI_get e1
            rw [List.getElem?_eq_getElem hi'] at this
            exact Option.some.inj this
          rw [eg] at c2
          cases hgx : g (.tup [.int (i : Nat), px]) l2 m2 with
          | none => rw [hgx] at c2; exact c2.elim
          | some p =>
            obtain ⟨l3, m3⟩ := p
            rw [hgx] at c2
            dsimp only at c2
            refine ⟨φ2, l2, m2, _, f2, b2.ext f1, f3, l3, m3, hgx, fun φ3 σ3 H3 x3 a3 b3 => ⟨φ3, l3, m3, a3, b3, ?_⟩⟩
            have c3 := PostS.ext (f1.trans x3) c2
            cases hb : sb l3 m3 with
            | nx l4 m4 =>
              rw [hb] at c3
              exact fun φ4 σ4 H4 x4 a4 b4 => ⟨φ4, l4, m4, ((x2.trans f1).trans x3).trans x4, a4, b4, PostS.ext x4 c3⟩
            | ct l4 m4 =>
              rw [hb] at c3
              exact fun φ4 σ4 H4 x4 a4 b4 => ⟨φ4, l4, m4, ((x2.trans f1).trans x3).trans x4, a4, b4, PostS.ext x4 c3⟩
            | bk l4 m4 => rw [hb] at c3; exact c3
            | rt x m4 => rw [hb] at c3; exact c3
            | ex c fs l4 m4 => rw [hb] at c3; exact c3
            | bad => rw [hb] at c3; exact c3
        · rw [if_neg hk] at c2; exact c2.elim
      · rintro σ2 H2 ⟨φ2, l2, m2, x2, a2, b2, c2⟩
        rw [List.drop_of_length_le (by rw [enumI_len]; exact Nat.le_refl _)] at c2
        unfold forLE at c2
        by_cases hk : seq? m2 n = some xs
        · rw [if_pos hk] at c2
          exact c2 φ2 σ2 H2 Ext.refl a2 b2
        · rw [if_neg hk] at c2; exact c2.elim
  | .non, _, d0 => exact (show False from d0).elim
  | .int _, _, d0 => exact (show False from d0).elim
  | .bl _, _, d0 => exact (show False from d0).elim
  | .str _, _, d0 => exact (show False from d0).elim⟩
end
end SM
namespace SM
open PySem PySem.Spec PyProof.Rows L2
/-! ## try: .. except C as n: found.append(n.f) -/
theorem RL.unset {K : PySem.W.Frag} {H : Hp} {φ : List Addr} {l : Loc} {σ : L2.St} {i : Nat} {v : Option V} (h : RL K H φ l σ) : RL K H φ (l.set i none) ((σ.set i v).set i none) := by
  refine ⟨by simpa using h.1, fun k x e => ?_⟩
  by_cases c : i = k
  · subst c
    by_cases hl : i < l.length
    · rw [List.getElem?_set_self hl] at e; cases e
    · rw [List.getElem?_eq_none (by simpa using hl)] at e; cases e
  · rw [List.getElem?_set_ne c] at e
    obtain ⟨v, e1, e2⟩ := h.2 k x e
    exact ⟨v, by rw [List.getElem?_set_ne c, List.getElem?_set_ne c]; exact e1, e2⟩
def hApp (i : Nat) (y : PV) (l : Loc) (m : MH) : Option (Option PV) → RS
  | some (some (.ref n)) => match appendv (.ref n) [y] m with
    | some (_, m') => .nx (l.set i none) m'
    | none => .bad
  | _ => .bad
def xTryP (cn : String) (i j : Nat) (sb : SS) : SS := fun l m => match sb l m with
  | .ex c [y] l' m' => if c = cn ∧ i < l'.length ∧ i ≠ j then hApp i y l' m' l'[j]? else .bad
  | .ex _ _ _ _ => .bad
  | r => r
section
variable {X : Cx} {W : XM} {body : List Stmt} {sb : SS} {x n fn fnd : Str} {cn : String} {C : Addr} {i j : Nat} {np p1 p2 p3 p4 apos cpos pos pos' : Pos}
theorem x_tryP (i j : Nat) (hs : X.stack = X.env :: X.outer) (hf : X.env.frame = some X.env.locals) (hN : X.N.Nodup) (hi : X.N[i]? = some n) (hln : X.env.kindOf n = some .local) (T : ExcT X.prog X.w X.K X.mg X.base x C fn) (hg : Gl X x)
    (hb : ∀ (Wx : WX) (pn : List (Addr × Obj)) (xe : Value → Shared → Prop), Takes (X.tr pn xe) Wx → PassesOwn (model X.prog X.w) X.A X.env xe → QSs (X.tr pn xe) (WTx X.K C cn fn Wx) body sb)
    (hv : Vis X.env.scope n) (hj : X.N[j]? = some fnd) (hvj : Vis X.env.scope fnd) (hab : attributeBase (.Name n p1) fn X.env (eval (.Name n p1) X.env) = eval (.Name n p1) X.env)
    (hbase : attributeBase (.Name fnd p4) "append" X.env (eval (.Name fnd p4) X.env) = eval (.Name fnd p4) X.env)
    (hfew : ((backTo cpos (starEach [.Attribute (.Name n p1) fn p2] X.env)).all (fun x => !x.1) && (backToKw cpos (keywordEach [] X.env)).all (fun x => x.1.isSome)
      && decide ([Expr.Attribute (.Name n p1) fn p2].length + ([] : List Keyword).length + (if ([] : List Keyword).isEmpty then 0 else 1) < 30)) = true)
    (hline : (apos.endLine == cpos.line) = true) (hse : starEach [.Attribute (.Name n p1) fn p2] X.env = (false, eval (.Attribute (.Name n p1) fn p2) X.env) :: starEach [] X.env)
    (hsw : swapsWith (.Call (.Attribute (.Name fnd p4) "append" apos) [.Attribute (.Name n p1) fn p2] [] cpos) none p3.line X.env = pure false)
    (hdb : (x == ("__debug__" : Str)) = false := by decide) (hdn : (n == ("__debug__" : Str)) = false := by decide) (hcd : (n == ("__classdict__" : Str)) = false := by decide) (hdj : (fnd == ("__debug__" : Str)) = false := by decide) (hcj : (fnd == ("__classdict__" : Str)) = false := by decide) :
    QS X W (.Try body [.ExceptHandler (some (.Name x np)) (some n) [.Expr (.Call (.Attribute (.Name fnd p4) "append" apos) [.Attribute (.Name n p1) fn p2] [] cpos) p3] pos'] [] [] pos) (xTryP cn i j sb) :=
  ⟨ps_imp (ps_try_as (tb := fun Wx => RdS X.K (WTx X.K C cn fn Wx) sb) (ts := fun a cls d => tDrop (tBM X.K "list" (fun v vs H Q => ∃ φ m x xs, RH X.K H φ m ∧ RV X.K H φ x v ∧ RVs X.K H φ xs vs ∧ PostO X.K φ H (appendv x xs m) Q) (tVar j) (tCons (tXf a cls d C fn (tVar i)) tNil))) hs hf hN hi hln ⟨hg, hdb, .inl T.gC⟩ (L2.takes0 (X := X)) (fun Wx pn xe tk po => (hb Wx pn xe tk po).ps)
    (fun a oe cls d pn hz hff => pss_one (ps_expr (X := X.suite a ((a, oe) :: pn)) (pe_bm (X := X.suite a ((a, oe) :: pn)) PySem.F.plainAttrs_list PySem.F.slot_list_append PySem.F.type_list_append m_append (pe_var (i := j) hj hvj hdj hcj) (pa_cons (X := X.suite a ((a, oe) :: pn)) (pe_xf T.xf T.no hz hff (pe_var (i := i) hi hv hdn hcd) hab) pa_nil hse) hbase hfew hline hse rfl) hsw))) fun D σ H ⟨φ, l, m, h1, h2, h3⟩ => by
    refine ⟨φ, l, m, h1, h2, ?_⟩
    unfold xTryP at h3
    cases hsb : sb l m with
    | nx l' m' => rw [hsb] at h3; exact h3
    | rt y m' => rw [hsb] at h3; exact h3
    | bk l' m' => rw [hsb] at h3; exact h3
    | ct l' m' => rw [hsb] at h3; exact h3
    | bad => rw [hsb] at h3; exact h3
    | ex c fs l' m' =>
      rw [hsb] at h3
      match fs, h3 with
      | [], h3 => exact h3.elim
      | [y], h3 =>
        dsimp only at h3
        by_cases hz : c = cn ∧ i < l'.length ∧ i ≠ j
        · rw [if_pos hz] at h3
          obtain ⟨hz1, hz2, hz3⟩ := hz
          intro φ1 σ1 H1 x1 a1 b1
          refine ⟨y, hz1, rfl, fun φ2 H2 d v x2 a2 b2 r2 e2 => ⟨true, T.te, fun _ a na => ?_, fun z => by cases z⟩⟩
          have hil : i < σ1.length := by rw [← b2.1]; exact hz2
          unfold hApp at h3
          split at h3
          · rename_i k hlj
            obtain ⟨vj, ej, rj⟩ := b2.2 j _ hlj
            cases ha : appendv (.ref k) [y] m' with
            | none => rw [ha] at h3; exact h3.elim
            | some q =>
              obtain ⟨z, m3⟩ := q
              rw [ha] at h3
              have hty : tyV X.K "list" vj H2 := by
                refine ty_list H2 φ2 m' _ _ a2 rj ?_
                unfold appendv at ha
                dsimp only at ha
                cases hl : lst? m' k with
                | none => rw [hl] at ha; cases ha
                | some xs =>
                  show (seq? m' k).isSome = true
                  unfold seq?
                  rw [lst_some hl]
                  rfl
              refine ⟨vj, by rw [List.getElem?_set_ne hz3]; exact ej, hty, ?_⟩
              refine ⟨.ref a, List.getElem?_set_self hil, rfl, rfl, d, [(fn, v)], v, rfl, e2, by simp [List.lookup], φ2, m', _, [y], a2, rj, ⟨v, [], rfl, r2, rfl⟩, z, m3, ha, fun φ3 H3 w x3 a3 _ => ?_⟩
              have b3 : RL X.K H3 φ3 l' σ1 := (b2.ext x3)
              exact h3 φ3 _ H3 ((x1.trans x2).trans x3) a3 b3.unset
          · exact h3.elim
        · rw [if_neg hz] at h3; exact h3.elim
      | _ :: _ :: _, h3 => exact h3.elim⟩
end
end SM

set_option Elab.async false
set_option linter.all false
set_option maxRecDepth 100000
set_option maxHeartbeats 2000000
/-! SM21: where a text has been made (text.replace of written texts). -/
namespace SM
open PySem PySem.Spec PyProof.Rows L2
theorem thnT {α : Type} {t : Sem α} {Q Q' : α → Shared → Prop} {M : Model} {A : Around} {E : Value → Shared → Prop} {s : Shared} (h0 : 1 ≤ s.toks) (h : wpAny M A t Q E s) (hQ : ∀ a s', 1 ≤ s'.toks → Q a s' → Q' a s') : wpAny M A t Q' E s :=
  wpAny_mono (PySem.wpAny_toks_of h0 h) (fun a s' x => hQ a s' x.1 x.2) fun _ _ x => x.2
section
variable {X : Cx}
theorem pst_forT {tg iter : Expr} {body : List Stmt} {wi : TI} {g : TG} {tb : TS} {pos : Pos} (hp : PassesOwn (model X.prog X.w) X.A X.env X.xe) (hc : X.calm = true) (hi : PI X tg iter wi) (hg : PG X tg g) (hb : PSsT X body tb)
    (hs : ∀ x, foldedSetIterable iter X.env x = pure x := by intro _; rfl) : PST X (.For tg iter body [] pos) (tFor wi g tb) := by
  intro pins s σ H D h0 I h
  refine wpAny_For (thnT h0 (hi.run pins s σ H _ I h) fun v s1 t1 h1 => thnT t1 h1 fun itv s2 t2 h2 => ?_) hs
  obtain ⟨it, fp, tn, J, H2, e, I2, T, st2, f2, W, ⟨m0, w0⟩, turn⟩ := h2
  subst e
  have stat : ∀ {H' : Hp}, (∀ b ∈ fp, H' b = none) → ∀ b ∈ fp, FpOk X pins H' b := fun hn b hb => ⟨hn b hb, (f2 b hb).2⟩
  refine codeAny_forLoop_any (fun n s' => 1 ≤ s'.toks ∧ ∃ i σ' H', Inv X pins σ' H' s' ∧ tn i s'.heap ∧ (∀ b ∈ fp, H' b = none) ∧ W i n σ' H') ?_ m0 ⟨t2, 0, σ, H2, I2, st2, fun b hb => (f2 b hb).1, w0⟩
  rintro n s3 ⟨t3, i, σ3, H3, I3, st3, fr3, w3⟩
  rcases turn i n σ3 H3 w3 with ⟨stop, qn⟩ | ⟨go, N, hN, step⟩
  · refine wpAny_passesOwn hp (thn (T.done X rfl rfl rfl hc i pins s3 σ3 H3 X.xe I3 (stat fr3) st3 stop) fun r s4 ⟨hr, I4⟩ => ?_)
    subst hr
    exact wpAny_execs_nil ⟨σ3, H3, I4, qn⟩
  · refine wpAny_passesOwn hp (thnT t3 (T.item X rfl rfl rfl hc i pins s3 σ3 H3 X.xe I3 (stat fr3) st3 go) fun r s4 t4 ⟨u, hr, h4⟩ => ?_)
    subst hr
    refine wpAny_passesOwn hp (thnT t4 h4 fun _ s5 t5 ⟨x, H5, I5, r5, y5, st5, fr5⟩ => ?_)
    have I5' := I5.pinned (stat fr5) (T.obj _ _ st5)
    refine wpAny_passesOwn hp (thnT t5 (hg.run _ s5 σ3 H5 x u _ I5' r5 (step x H5 y5)) fun _ s6 t6 ⟨σ6, H6, I6, q6⟩ => ?_)
    refine wpAny_passesOwn hp (thnT t6 (hb _ s6 σ6 H6 _ t6 I6 q6) fun f s7 t7 q7 => ?_)
    have again : ∀ {σ7 : L2.St} {H7 : Hp}, Inv X (pins ++ pinsAt fp s5.heap) σ7 H7 s7 → N σ7 H7 → ∃ m, m < n ∧ 1 ≤ s7.toks ∧ ∃ i σ' H', Inv X pins σ' H' s7 ∧ tn i s7.heap ∧ (∀ b ∈ fp, H' b = none) ∧ W i m σ' H' := fun {σ7 H7} I7 n7 => by
      obtain ⟨m', hm, w7⟩ := hN σ7 H7 n7
      refine ⟨m', hm, t7, i + 1, σ7, H7, I7.unpinned, T.keep _ _ _ st5 fun b hb o e => (I7.pin (b, o) (List.mem_append_right _ (List.mem_append_right _ (mem_pinsAt hb e)))).1, fun b hb => ?_, w7⟩
      obtain ⟨o, e, d⟩ := T.obj _ _ st5 b hb
      exact (I7.pin (b, o) (List.mem_append_right _ (List.mem_append_right _ (mem_pinsAt hb e)))).2.1
    cases f with
    | next => obtain ⟨σ7, H7, I7, n7⟩ := q7; exact again I7 n7
    | cont => obtain ⟨σ7, H7, I7, n7⟩ := q7; exact again I7 n7
    | brk => obtain ⟨σ7, H7, I7, q7⟩ := q7; exact ⟨σ7, H7, I7.unpinned, q7⟩
    | ret v => obtain ⟨x7, σ7, H7, I7, r7, q7⟩ := q7; exact ⟨x7, σ7, H7, I7.unpinned, r7, q7⟩
theorem pst_setT {i : Nat} {x : Str} {e : Expr} {te : TE} {pos pos' : Pos} (hN : X.N.Nodup) (hi : X.N[i]? = some x) (hx : L2.Loc X.env.scope x) (he : PET X e te) (hs : swapsWith e (some (.Name x pos')) pos.line X.env = pure false := by rfl) (hf : X.fn x = true ∨ X.env.scope.names.lookup x = some .local := by first | exact .inl rfl | exact .inr rfl | assumption) :
    PST X (.Assign [.Name x pos'] e pos) (tAsg te (gName i)) := by
  intro pins s σ H D h0 I h
  refine wpAny_Assign_Name (thn (he pins s σ H _ h0 I h) fun v s1 ⟨y, H1, I1, r1, q1⟩ => ?_) hs
  exact store_ok I1 hN hi hx r1 (fun s2 I2 => ⟨_, H1, I2, q1⟩) hf
end
structure QST (X : Cx) (W : XM) (st : Stmt) (s : SS) : Prop where
  ps : PST X st (RdS X.K W s)
structure QSsT (X : Cx) (W : XM) (st : List Stmt) (s : SS) : Prop where
  ps : PSsT X st (RdS X.K W s)
structure QET (X : Cx) (W : XM) (e : Expr) (s : SE) : Prop where
  pe : PET X e (Rdg X.K (rV X.K) W s)
theorem pst_imp {X : Cx} {e : Stmt} {t t' : TS} (h : PST X e t) (i : ∀ D σ H, t' D σ H → t D σ H) : PST X e t' := fun pins s σ H D h0 I q => h pins s σ H D h0 I (i D σ H q)
theorem psst_imp {X : Cx} {e : List Stmt} {t t' : TS} (h : PSsT X e t) (i : ∀ D σ H, t' D σ H → t D σ H) : PSsT X e t' := fun pins s σ H D h0 I q => h pins s σ H D h0 I (i D σ H q)
theorem pet_imp {X : Cx} {e : Expr} {t t' : TE} (h : PET X e t) (i : ∀ σ H Q, t' σ H Q → t σ H Q) : PET X e t' := fun pins s σ H Q h0 I q => h pins s σ H Q h0 I (i σ H Q q)
def replv (y z : List Nat) : PV → MH → OR
  | .str s, m => if s.length + (s.length + 1) * z.length ≤ 16777216 then some (.str (StrLaws.replL y z s), m) else none
  | _, _ => none
section
variable {X : Cx} {W : XM} {st : Stmt} {rest : List Stmt} {s t : SS}
theorem xt_of (h : QS X W st s) : QST X W st s := ⟨PST.of h.ps⟩
theorem xst_of (h : QSs X W rest s) : QSsT X W rest s := ⟨PSsT.of h.ps⟩
theorem xt_nil : QSsT X W [] xNil := xst_of x_nil
theorem xt_cons (h1 : QST X W st s) (h2 : QSsT X W rest t) : QSsT X W (st :: rest) (xSeq s t) := ⟨psst_imp (psst_cons h1.ps h2.ps) fun D σ H ⟨φ, l, m, h1, h2, h3⟩ => by
  refine ⟨φ, l, m, h1, h2, ?_⟩
  unfold xSeq at h3
  cases hs : s l m with
  | nx l' m' => rw [hs] at h3; exact fun φ' σ' H' x a b => ⟨φ', l', m', a, b, PostS.ext x h3⟩
  | bk l' m' => rw [hs] at h3; exact h3
  | ct l' m' => rw [hs] at h3; exact h3
  | rt l' m' => rw [hs] at h3; exact h3
  | ex c fs l' m' => rw [hs] at h3; exact h3
  | bad => rw [hs] at h3; exact h3⟩
theorem xt_one (h1 : QST X W st s) : QSsT X W [st] s := ⟨CwR.psst_one h1.ps⟩
theorem xt_if {c : Expr} {a b : List Stmt} {tc : SB} {sa sb : SS} {pos : Pos} (hc : QT X W c tc) (ha : QSsT X W a sa) (hb : QSsT X W b sb) : QST X W (.If c a b pos) (xIf tc sa sb) := ⟨pst_imp (CwR.pst_if hc.pt ha.ps hb.ps) fun D σ H ⟨φ, l, m, h1, h2, h3⟩ =>
  ⟨φ, l, m, h1, h2, (PostS.then (rel := rB) h2 h3).mono fun v H1 ⟨φ1, x, m1, e1, a1, b1, c1, d1⟩ => by
    cases c1
    cases v with
    | true => exact iteT ⟨φ1, l, m1, a1, b1, d1⟩
    | false => exact iteF ⟨φ1, l, m1, a1, b1, d1⟩⟩⟩
theorem xt_set (i : Nat) {x : Str} {e : Expr} {se : SE} {pos pos' : Pos} (hN : X.N.Nodup) (he : QET X W e se) (hi : X.N[i]? = some x := by rfl) (hx : L2.Loc X.env.scope x := by first | exact .inl rfl | exact .inr rfl) (hs : swapsWith e (some (.Name x pos')) pos.line X.env = pure false := by rfl)
    (hf : X.fn x = true ∨ X.env.scope.names.lookup x = some .local := by first | exact .inl rfl | exact .inr rfl) : QST X W (.Assign [.Name x pos'] e pos) (xSet i se) := ⟨pst_imp (pst_setT hN hi hx he.pe hs hf) fun D σ H ⟨φ, l, m, h1, h2, h3⟩ =>
  ⟨φ, l, m, h1, h2, (PostS.then (rel := rV X.K) h2 h3).mono fun v H1 ⟨φ1, x, m1, e1, a1, b1, c1, d1⟩ => d1 φ1 _ H1 Ext.refl a1 (b1.set i c1)⟩⟩
theorem xt_str (i : Nat) {j : Nat} {x : Str} (c : List Nat) {cpos pos pos' : Pos} (hN : X.N.Nodup) (h2 : QSsT X W rest t) (hi : X.N[i]? = some x := by rfl) (hx : L2.Loc X.env.scope x := by first | exact .inl rfl | exact .inr rfl)
    (hs : swapsWith (.Constant (.str ⟨c.toArray⟩) j cpos) (some (.Name x pos')) pos.line X.env = pure false := by rfl) (hf : X.fn x = true ∨ X.env.scope.names.lookup x = some .local := by first | exact .inl rfl | exact .inr rfl) :
    QSs X W (.Assign [.Name x pos'] (.Constant (.str ⟨c.toArray⟩) j cpos) pos :: rest) (xSeq (xSet i (sC (.str c))) t) := ⟨pss_imp (pss_str hN hi hx h2.ps hs hf) fun D σ H ⟨φ, l, m, h1, h2, h3⟩ => by
  have h3 : PostS X.K W φ H (t (l.set i (some (.str c))) m) D := h3
  exact ⟨φ, _, m, h1, h2.set i (show RV X.K H φ (.str c) (.str ⟨c.toArray⟩) from rfl), h3⟩⟩
theorem qt_repl {o : Expr} {so : SE} {apos pos c0 c1 : Pos} {j k : Nat} (y z : List Nat) (ho : QE X W o so) (hy : 1 ≤ y.length := by decide) (hyz : ((⟨y.toArray⟩ : Str) == ⟨z.toArray⟩) = false := by decide)
    (hst : starEach [.Constant (.str ⟨y.toArray⟩) j c0, .Constant (.str ⟨z.toArray⟩) k c1] X.env = [(false, eval (.Constant (.str ⟨y.toArray⟩) j c0) X.env), (false, eval (.Constant (.str ⟨z.toArray⟩) k c1) X.env)] := by rfl)
    (hbase : attributeBase o "replace" X.env (eval o X.env) = eval o X.env := by rfl) (hline : (apos.endLine == pos.line) = true := by rfl) :
    QET X W (.Call (.Attribute o "replace" apos) [.Constant (.str ⟨y.toArray⟩) j c0, .Constant (.str ⟨z.toArray⟩) k c1] [] pos) (sUn (replv y z) so) :=
  ⟨pet_imp (CwR.pet_replC ho.pe hyz hst hbase hline) fun σ H Q h => (one h).mono fun v H1 ⟨φ, m, x, _, c1, c2, c3⟩ => by
    have c4 := PostO.of c3
    unfold replv at c4
    split at c4
    · rename_i s
      cases c2
      split at c4
      · rename_i hz
        refine ⟨_, rfl, by rw [str_len, str_len]; exact hz, ?_⟩
        refine c4.same c1 ?_
        show V.str _ = V.str _
        have e := StrLaws.replace_list (x := ⟨s.toArray⟩) (y := ⟨y.toArray⟩) (z := ⟨z.toArray⟩) (by rw [str_len]; exact hy)
        have e2 : StrLaws.replL y z s = (Txt.replace ⟨s.toArray⟩ ⟨y.toArray⟩ ⟨z.toArray⟩).cps.toList := e.symm
        rw [e2, str_eta]
      · exact c4.not.elim
    · exact c4.not.elim⟩
end
section
variable {X : Cx} {W : XM} {iter tg e : Expr} {body : List Stmt} {si : SI} {g : STg} {sb : SS} {pos : Pos} {se : SE}
theorem xt_for (hp : PassesOwn (model X.prog X.w) X.A X.env X.xe) (hc : X.calm = true) (hi : QI X W tg iter si) (hg : QG X tg g) (hb : QSsT X W body sb)
    (hs : ∀ x, foldedSetIterable iter X.env x = pure x := by intro _; rfl) : QST X W (.For tg iter body [] pos) (xFor si g sb) := ⟨pst_imp (pst_forT hp hc hi.pi hg.pg hb.ps hs) fun D σ H ⟨φ, l, m, h1, h2, h3⟩ => by
  refine ⟨φ, l, m, h1, h2, ?_⟩
  unfold xFor at h3
  cases hsi : si l m with
  | bad => rw [hsi] at h3; exact h3
  | ex c fs m' => rw [hsi] at h3; exact fun φ' H' x a => h3 φ' σ H' x a (h2.ext x)
  | ok it m' =>
    rw [hsi] at h3
    intro φ' H' J x0 a0 w
    refine for_it w (fun i σ2 H2 => ∃ φ2 l2 m2, Ext X.K φ' H' φ2 H2 ∧ RH X.K H2 φ2 m2 ∧ RL X.K H2 φ2 l2 σ2 ∧ PostS X.K W φ2 H2 (forL it g sb (it.items.drop i) l2 m2) D) ⟨φ', l, m', Ext.refl, a0, h2.ext x0, PostS.ext x0 h3⟩ ?_ ?_ ?_
    · rintro i σ2 H2 hi ⟨φ2, l2, m2, x2, a2, b2, c2⟩
      refine ⟨φ2, m2, x2, a2, ?_⟩
      cases hd : it.items.drop i with
      | nil =>
        rw [hd] at c2
        unfold forL at c2
        by_cases hk : it.ok m2
        · exact hk
        · rw [if_neg hk] at c2; exact c2.elim
      | cons x r =>
        rw [hd] at c2
        unfold forL at c2
        by_cases hk : it.ok m2
        · exact hk
        · rw [if_neg hk] at c2; exact c2.elim
    · rintro i v σ2 H2 H3 hi ⟨φ2, l2, m2, x2, a2, b2, c2⟩ ⟨rfl, hv⟩
      have hi' : i < it.items.length := hi
      rw [List.drop_eq_getElem_cons hi'] at c2
      unfold forL at c2
      by_cases hk : it.ok m2
      · rw [if_pos hk] at c2
        obtain ⟨x0', hx1, hx2⟩ := hv φ2 m2 x2 a2 hk
        rw [List.getElem?_eq_getElem hi'] at hx1
        cases hx1
        cases hgx : g it.items[i] l2 m2 with
        | none => rw [hgx] at c2; exact c2.elim
        | some p =>
          obtain ⟨l3, m3⟩ := p
          rw [hgx] at c2
          dsimp only at c2
          refine ⟨φ2, l2, m2, _, a2, b2, hx2, l3, m3, hgx, fun φ3 σ3 H3 x3 a3 b3 => ⟨φ3, l3, m3, a3, b3, ?_⟩⟩
          have c3 := PostS.ext x3 c2
          cases hb : sb l3 m3 with
          | nx l4 m4 =>
            rw [hb] at c3
            exact fun φ4 σ4 H4 x4 a4 b4 => ⟨φ4, l4, m4, (x2.trans x3).trans x4, a4, b4, PostS.ext x4 c3⟩
          | ct l4 m4 =>
            rw [hb] at c3
            exact fun φ4 σ4 H4 x4 a4 b4 => ⟨φ4, l4, m4, (x2.trans x3).trans x4, a4, b4, PostS.ext x4 c3⟩
          | bk l4 m4 => rw [hb] at c3; exact c3
          | rt x m4 => rw [hb] at c3; exact c3
          | ex c fs l4 m4 => rw [hb] at c3; exact c3
          | bad => rw [hb] at c3; exact c3
      · rw [if_neg hk] at c2; exact c2.elim
    · rintro σ2 H2 ⟨φ2, l2, m2, x2, a2, b2, c2⟩
      rw [List.drop_of_length_le (Nat.le_refl _)] at c2
      unfold forL at c2
      by_cases hk : it.ok m2
      · rw [if_pos hk] at c2
        exact c2 φ2 σ2 H2 Ext.refl a2 b2
      · rw [if_neg hk] at c2; exact c2.elim⟩
end
end SM

set_option Elab.async false
set_option linter.all false
set_option maxRecDepth 100000
set_option maxHeartbeats 2000000
/-! SM22: dict.get(k, d) and k in d, of dicts with ints as keys. -/
namespace SM
open PySem PySem.Spec PyProof.Rows L2
def dk? (m : MH) (n : Nat) : Option (List (Int × PV)) := match m[n]? with
  | some (.dck kvs) => some kvs
  | some (.frk kvs) => some kvs
  | _ => none
theorem dk_some {m : MH} {n : Nat} {kvs : List (Int × PV)} (h : dk? m n = some kvs) : m[n]? = some (.dck kvs) ∨ m[n]? = some (.frk kvs) := by
  unfold dk? at h
  split at h
  · rename_i e; cases h; exact .inl e
  · rename_i e; cases h; exact .inr e
  · cases h
theorem dk_d {m : MH} {n : Nat} {kvs : List (Int × PV)} (h : m[n]? = some (.dck kvs)) : dk? m n = some kvs := by unfold dk?; rw [h]
theorem dk_f {m : MH} {n : Nat} {kvs : List (Int × PV)} (h : m[n]? = some (.frk kvs)) : dk? m n = some kvs := by unfold dk?; rw [h]
def isDk (m : MH) : PV → Bool
  | .ref n => (dk? m n).isSome
  | _ => false
def dget2v : PV → PV → PV → MH → OR
  | .ref n, .int a, z, m => match dk? m n with
    | some kvs => some ((getD kvs a).getD z, m)
    | none => none
  | _, _, _, _ => none
def dinv : PV → PV → MH → OR
  | .int a, .ref n, m => match dk? m n with
    | some kvs => some (.bl (getD kvs a).isSome, m)
    | none => none
  | _, _, _ => none
def sGet2 (sd sk sz : SE) : SE := fun l m => (sd l m).bind fun x m1 => if isDk m1 x = true then (sk l m1).bind fun y m2 => (sz l m2).bind fun z m3 => lift (dget2v x y z m3) else .bad
theorem rks_none {K : PySem.W.Frag} {H : Hp} {φ : List Addr} {k : Int} : ∀ {kvs : List (Int × PV)} {ws : List (Key × V)}, RKs K H φ encK kvs ws → getD kvs k = none → valV ws (encK k) = none
  | [], ws, h, _ => by cases h; rfl
  | p :: kvs, ws, h, g => by
    obtain ⟨v, t, rfl, _, h3⟩ := h
    unfold getD at g
    rw [List.find?_cons] at g
    by_cases c : p.1 = k
    · rw [decide_eq_true c] at g
      cases g
    · rw [decide_eq_false c] at g
      rw [valV_neg (by intro z; exact c (encK_inj.mp z))]
      exact rks_none h3 g
section
variable {X : Cx} {W : XM} {o e f : Expr} {sd sk sz : SE} {apos cpos pos : Pos} {k : Nat}
theorem dget_of {K : PySem.W.Frag} {H : Hp} {φ : List Addr} {m : MH} {n : Nat} {a : Int} {kvs : List (Int × PV)} {v : V} (c1 : RH K H φ m) (hm : dk? m n = some kvs) (r : RV K H φ (.ref n) v) :
    ∃ ad ws, v = .ref ad ∧ Rd H ad (.dK ws) ∧ RKs K H φ encK kvs ws := by
  obtain ⟨ad, ha, rfl⟩ := r
  rcases dk_some hm with hm | hm
  · obtain ⟨ws, q1, q2⟩ := c1.obj n ad _ ha hm
    exact ⟨ad, ws, rfl, .inl q1, q2⟩
  · obtain ⟨od, ws, q1, q2⟩ := c1.obj n ad _ ha hm
    exact ⟨ad, ws, rfl, .inr ⟨od, q1⟩, q2⟩
theorem q_dget2 (hr : Room k X.A) (ho : QE X W o sd) (he : QE X W e sk) (hf : QE X W f sz) (hM : M2 X o "get" apos e f cpos) : QE X W (.Call (.Attribute o "get" apos) [e, f] [] cpos) (sGet2 sd sk sz) :=
  ⟨pe_imp (pe_dget2 (by have := hr.units; omega) ho.pe he.pe hf.pe hM) fun σ H Q ⟨φ, l, m, h1, h2, h3⟩ => ⟨φ, l, m, h1, h2, (Post.bind (rel := rV X.K) h2 h3).mono fun v H1 ⟨φ1, x, m1, e1, a1, b1, c1, d1⟩ => by
    by_cases hk : isDk m1 x = true
    · rw [if_pos hk] at d1
      obtain ⟨n, kvs, rfl, hm⟩ : ∃ n kvs, x = .ref n ∧ dk? m1 n = some kvs := by
        unfold isDk at hk
        split at hk
        · rename_i n
          obtain ⟨kvs, e⟩ := Option.isSome_iff_exists.mp hk
          exact ⟨n, kvs, rfl, e⟩
        · cases hk
      obtain ⟨ad, ws, rfl, q1, q2⟩ := dget_of (a := 0) a1 hm c1
      refine ⟨ad, rfl, .inl ⟨ws, q1⟩, φ1, l, m1, a1, b1, (Post.bind (rel := rV X.K) b1 d1).mono fun y H2 ⟨φ2, yv, m2, e2, a2, b2, c2, d2⟩ => ⟨φ2, l, m2, a2, b2, (Post.bind (rel := rV X.K) b2 d2).mono fun z H3 ⟨φ3, zv, m3, e3, a3, b3, c3, d3⟩ => ?_⟩⟩
      have d4 := PostO.of d3
      cases yv with
      | int a =>
        unfold dget2v at d4
        dsimp only at d4
        cases hm3 : dk? m3 n with
        | none => rw [hm3] at d4; exact d4.not.elim
        | some kvs' =>
          rw [hm3] at d4
          dsimp only at d4
          obtain ⟨ad', ws', e0, q1', q2'⟩ := dget_of (a := 0) a3 hm3 (RV.ext (e2.trans e3) c1)
          cases e0
          have cy : y = .int a := c2
          subst cy
          cases hg : getD kvs' a with
          | none =>
            rw [hg] at d4
            exact ⟨none, .inl ⟨ws', encK a, q1', rfl, (rks_none q2' hg).symm⟩, d4.same a3 c3⟩
          | some w =>
            rw [hg] at d4
            obtain ⟨v, e1', e2'⟩ := rks_get encK_inj q2' hg
            exact ⟨some v, .inl ⟨ws', encK a, q1', rfl, e1'.symm⟩, d4.same a3 e2'⟩
      | _ => exact d4.not.elim
    · rw [if_neg hk] at d1
      exact d1.elim⟩⟩
theorem q_dIn (hr : Room k X.A) (he : QE X W e sk) (ho : QE X W o sd) (hb : behindInMarks .In o = false := by rfl) : QE X W (.Compare e [.In] [o] pos) (sOp dinv sk sd) :=
  ⟨pe_imp (pe_cmp (pc_din (by have := hr.units; omega) he.pe ho.pe) hb) fun σ H Q h => (two h).mono fun v H1 h1 => Rdg.mono h1 fun w H2 ⟨φ, m, y, x, _, c1, c2, c3, c4⟩ => by
    unfold dinv at c4
    split at c4
    · rename_i a n
      split at c4
      · rename_i kvs hm
        obtain ⟨ad, ws, rfl, q1, q2⟩ := dget_of (a := 0) c1 hm c3
        have cy : v = .int a := c2
        subst cy
        cases hg : getD kvs a with
        | none =>
          rw [hg] at c4
          exact ⟨ad, none, rfl, .inl ⟨ws, encK a, q1, rfl, (rks_none q2 hg).symm⟩, c4 φ H2 _ Ext.refl c1 rfl⟩
        | some z =>
          rw [hg] at c4
          obtain ⟨u, e1, e2⟩ := rks_get encK_inj q2 hg
          exact ⟨ad, some u, rfl, .inl ⟨ws, encK a, q1, rfl, e1.symm⟩, c4 φ H2 _ Ext.refl c1 rfl⟩
      · exact c4.elim
    · exact c4.elim⟩
def dgetKv : PV → PV → MH → OR
  | .ref n, .int a, m => match dk? m n with
    | some kvs => (getD kvs a).map fun z => (z, m)
    | none => none
  | _, _, _ => none
theorem q_dgetK (hr : Room k X.A) (ho : QE X W o sd) (he : QE X W e sk) (hs : NoSl e) : QE X W (.Subscript o e pos) (sOp dgetKv sd sk) :=
  ⟨pe_imp (pe_dget (by have := hr.units; omega) ho.pe he.pe hs) fun σ H Q h => (two h).mono fun v H1 h1 => Rdg.mono h1 fun w H2 ⟨φ, m, x, y, _, c1, c2, c3, c4⟩ => by
    unfold dgetKv at c4
    split at c4
    · rename_i n a
      split at c4
      · rename_i kvs hm
        obtain ⟨ad, ws, rfl, q1, q2⟩ := dget_of (a := 0) c1 hm c2
        have cy : w = .int a := c3
        subst cy
        cases hg : getD kvs a with
        | none => rw [hg] at c4; exact c4.elim
        | some z =>
          rw [hg] at c4
          obtain ⟨u, e1, e2⟩ := rks_get encK_inj q2 hg
          exact ⟨ad, u, rfl, .inl ⟨ws, encK a, q1, rfl, e1.symm⟩, c4 φ H2 _ Ext.refl c1 e2⟩
      · exact c4.elim
    · exact c4.elim⟩
/-! ## k in d, as a test -/
theorem t_dIn (hr : Room k X.A) (he : QE X W e sk) (ho : QE X W o sd) (hb : behindInMarks .In o = false := by rfl) : QT X W (.Compare e [.In] [o] pos) (tBool (sOp dinv sk sd)) :=
  ⟨pt_imp (pt_cmp (pc_din (by have := hr.units; omega) he.pe ho.pe) hb) fun σ H Q h => (two (Rdg.asB' h)).mono fun v H1 h1 => Rdg.mono h1 fun w H2 ⟨φ, m, y, x, _, c1, c2, c3, c4⟩ => by
    unfold dinv at c4
    split at c4
    · rename_i a n
      split at c4
      · rename_i kvs hm
        obtain ⟨ad, ws, rfl, q1, q2⟩ := dget_of (a := 0) c1 hm c3
        have cy : v = .int a := c2
        subst cy
        cases hg : getD kvs a with
        | none =>
          rw [hg] at c4
          exact ⟨ad, none, rfl, .inl ⟨ws, encK a, q1, rfl, (rks_none q2 hg).symm⟩, c4 φ H2 _ Ext.refl c1 rfl⟩
        | some z =>
          rw [hg] at c4
          obtain ⟨u, e1, e2⟩ := rks_get encK_inj q2 hg
          exact ⟨ad, some u, rfl, .inl ⟨ws, encK a, q1, rfl, e1.symm⟩, c4 φ H2 _ Ext.refl c1 rfl⟩
      · exact c4.elim
    · exact c4.elim⟩
end
end SM

set_option Elab.async false
set_option linter.all false
set_option maxRecDepth 100000
set_option maxHeartbeats 2000000
/-! SM23: an except suite that doesn't look at what it caught. -/
namespace SM
open PySem PySem.Spec PyProof.Rows L2
theorem RL.hide {K : PySem.W.Frag} {H : Hp} {φ : List Addr} {l : Loc} {σ : L2.St} {i : Nat} {v : Option V} (h : RL K H φ l σ) : RL K H φ (l.set i none) (σ.set i v) := by
  refine ⟨by simpa using h.1, fun k x e => ?_⟩
  by_cases c : i = k
  · subst c
    by_cases hl : i < l.length
    · rw [List.getElem?_set_self hl] at e; cases e
    · rw [List.getElem?_eq_none (by simpa using hl)] at e; cases e
  · rw [List.getElem?_set_ne c] at e
    obtain ⟨v, e1, e2⟩ := h.2 k x e
    exact ⟨v, by rw [List.getElem?_set_ne c]; exact e1, e2⟩
def unset (i : Nat) : RS → RS
  | .nx l m => .nx (l.set i none) m
  | .bk l m => .bk (l.set i none) m
  | .ct l m => .ct (l.set i none) m
  | .rt x m => .rt x m
  | _ => .bad
def xTryE (cn : String) (i : Nat) (sb sh : SS) : SS := fun l m => match sb l m with
  | .ex c [_] l' m' => if c = cn then unset i (sh (l'.set i none) m') else .bad
  | .ex _ _ _ _ => .bad
  | r => r
section
variable {X : Cx} {W : XM} {body suite : List Stmt} {b₀ : Stmt} {sb sh : SS} {x n fn : Str} {cn : String} {C : Addr} {i : Nat} {np pos pos' : Pos}
theorem x_tryE (i : Nat) (hs : X.stack = X.env :: X.outer) (hf : X.env.frame = some X.env.locals) (hN : X.N.Nodup) (hi : X.N[i]? = some n) (hln : X.env.kindOf n = some .local) (T : ExcT X.prog X.w X.K X.mg X.base x C fn) (hg : Gl X x)
    (hb : ∀ (Wx : WX) (pn : List (Addr × Obj)) (xe : Value → Shared → Prop), Takes (X.tr pn xe) Wx → PassesOwn (model X.prog X.w) X.A X.env xe → QSs (X.tr pn xe) (WTx X.K C cn fn Wx) body sb)
    (hsu : ∀ (a : Addr) (pn : List (Addr × Obj)), QSs (X.suite a pn) (fun _ _ _ _ _ _ _ => False) (b₀ :: suite) sh) (hdb : (x == ("__debug__" : Str)) = false := by decide) :
    QS X W (.Try body [.ExceptHandler (some (.Name x np)) (some n) (b₀ :: suite) pos'] [] [] pos) (xTryE cn i sb sh) :=
  ⟨ps_imp (ps_try_as (tb := fun Wx => RdS X.K (WTx X.K C cn fn Wx) sb) (ts := fun _ _ _ => RdS X.K (fun _ _ _ _ _ _ _ => False) sh) hs hf hN hi hln ⟨hg, hdb, .inl T.gC⟩ (L2.takes0 (X := X)) (fun Wx pn xe tk po => (hb Wx pn xe tk po).ps)
    (fun a oe cls d pn hz hff => (hsu a ((a, oe) :: pn)).ps)) fun D σ H ⟨φ, l, m, h1, h2, h3⟩ => by
    refine ⟨φ, l, m, h1, h2, ?_⟩
    unfold xTryE at h3
    cases hsb : sb l m with
    | nx l' m' => rw [hsb] at h3; exact h3
    | rt y m' => rw [hsb] at h3; exact h3
    | bk l' m' => rw [hsb] at h3; exact h3
    | ct l' m' => rw [hsb] at h3; exact h3
    | bad => rw [hsb] at h3; exact h3
    | ex c fs l' m' =>
      rw [hsb] at h3
      match fs, h3 with
      | [], h3 => exact h3.elim
      | [y], h3 =>
        dsimp only at h3
        by_cases hz : c = cn
        · rw [if_pos hz] at h3
          intro φ1 σ1 H1 x1 a1 b1
          refine ⟨y, hz, rfl, fun φ2 H2 d v x2 a2 b2 r2 e2 => ⟨true, T.te, fun _ a na => ?_, fun z => by cases z⟩⟩
          refine ⟨φ2, l'.set i none, m', a2, b2.hide, ?_⟩
          have h4 := PostS.ext (x1.trans x2) h3
          cases hh : sh (l'.set i none) m' with
          | nx l3 m3 => rw [hh] at h4; exact fun φ3 σ3 H3 x3 a3 b3 => h4 φ3 _ H3 x3 a3 b3.hide
          | bk l3 m3 => rw [hh] at h4; exact fun φ3 σ3 H3 x3 a3 b3 => h4 φ3 _ H3 x3 a3 b3.hide
          | ct l3 m3 => rw [hh] at h4; exact fun φ3 σ3 H3 x3 a3 b3 => h4 φ3 _ H3 x3 a3 b3.hide
          | rt y3 m3 => rw [hh] at h4; exact h4
          | ex c3 fs3 l3 m3 => rw [hh] at h4; exact h4.elim
          | bad => rw [hh] at h4; exact h4.elim
        · rw [if_neg hz] at h3; exact h3.elim
      | _ :: _ :: _, h3 => exact h3.elim⟩
end
end SM

set_option Elab.async false
set_option linter.all false
set_option maxRecDepth 100000
set_option maxHeartbeats 2000000
/-! SM24: range with a step. -/
namespace SM
open PySem PySem.Spec PyProof.Rows L2
def rngC (i c : Int) (n : Nat) : List PV := (List.range n).map fun k => .int (i + (k : Nat) * c)
theorem rngC_len {i c : Int} {n : Nat} : (rngC i c n).length = n := by simp [rngC]
theorem rngC_get {i c : Int} {n k : Nat} (h : k < n) : (rngC i c n)[k]? = some (.int (i + (k : Nat) * c)) := by
  unfold rngC
  rw [List.getElem?_map, List.getElem?_range h]
  rfl
open Classical in
noncomputable def iRng3S (a b c : SE) : SI := fun l m => (a l m).bind fun x m1 => (b l m1).bind fun y m2 => (c l m2).bind fun z m3 => match x, y, z with
  | .int i, .int j, .int k => if RgC i j k (Builtin.Range.rangeSize i j k).toNat then .ok ⟨rngC i k (Builtin.Range.rangeSize i j k).toNat, none⟩ m3 else .bad
  | _, _, _ => .bad
section
variable {X : Cx} {W : XM} {tg : Expr}
theorem walk_rngC {K : PySem.W.Frag} {φ' : List Addr} {H' : Hp} {i c : Int} {n : Nat} : Walk (Itc i c n) (rngC i c n).length (fun H2 => ∃ φ2 m2, Ext K φ' H' φ2 H2 ∧ RH K H2 φ2 m2 ∧ ITM.ok ⟨rngC i c n, none⟩ m2)
    (fun k H2 v H3 => H3 = H2 ∧ ∀ φ2 m2, Ext K φ' H' φ2 H2 → RH K H2 φ2 m2 → ITM.ok ⟨rngC i c n, none⟩ m2 → ∃ x, (rngC i c n)[k]? = some x ∧ RV K H2 φ2 x v) := by
  rw [rngC_len]
  exact walk_rangeC.mono (fun _ _ => trivial) fun k H2 v H3 hi _ y => ⟨y.1, fun φ3 m3 x3 a3 o3 => ⟨_, rngC_get hi, y.2⟩⟩
theorem i_rng3 {a b c : Expr} {sa sb sc : SE} {p pos : Pos} (hg : Gl X "range") (hm : X.mg "range" = none) (ha : QE X W a sa) (hb : QE X W b sb) (hc : QE X W c sc)
    (hs : starEach [a, b, c] X.env = (false, eval a X.env) :: starEach [b, c] X.env := by rfl) (hs2 : starEach [b, c] X.env = (false, eval b X.env) :: starEach [c] X.env := by rfl) (hs3 : starEach [c] X.env = (false, eval c X.env) :: starEach [] X.env := by rfl)
    (hpl : (backTo pos (starEach [b, c] X.env)).any (·.1) = false := by rfl) :
    QI X W tg (.Call (.Name "range" p) [a, b, c] [] pos) (iRng3S sa sb sc) :=
  ⟨pi_imp (pi_range3 hg hm (pa_cons ha.pe (pa_cons hb.pe (pa_cons hc.pe pa_nil hs3) hs2) hs) hs hpl) fun σ H RR ⟨φ, l, m, h1, h2, h3⟩ => ⟨φ, l, m, h1, h2, by
    unfold iRng3S at h3
    cases e1 : sa l m with
    | bad => rw [e1] at h3; exact h3
    | ex c fs m' => rw [e1] at h3; exact h3
    | ok y m1 =>
      rw [e1] at h3
      simp only [R.bind] at h3
      intro φ1 H1 v x1 a1 r1
      refine ⟨φ1, l, m1, a1, h2.ext x1, ?_⟩
      cases e2 : sb l m1 with
      | bad => rw [e2] at h3; exact h3
      | ex c fs m' =>
        rw [e2] at h3
        exact fun φ2 H2 x2 a2 => h3 φ2 H2 (x1.trans x2) a2
      | ok z m2 =>
        rw [e2] at h3
        simp only [R.bind] at h3
        intro φ2 H2 v2 x2 a2 r2
        refine ⟨φ2, l, m2, a2, (h2.ext x1).ext x2, ?_⟩
        cases e3 : sc l m2 with
        | bad => rw [e3] at h3; exact h3
        | ex c fs m' =>
          rw [e3] at h3
          exact fun φ3 H3 x3 a3 => h3 φ3 H3 ((x1.trans x2).trans x3) a3
        | ok u m3 =>
          rw [e3] at h3
          simp only [R.bind] at h3
          intro φ3 H3 v3 x3 a3 r3
          cases y with
          | int i =>
            cases z with
            | int j =>
              cases u with
              | int k =>
                cases r1
                cases r2
                cases r3
                simp only at h3
                by_cases hz : RgC i j k (Builtin.Range.rangeSize i j k).toNat
                · rw [if_pos hz] at h3
                  exact ⟨i, j, k, _, rfl, hz, h3 φ3 H3 _ ((x1.trans x2).trans x3) a3 walk_rngC⟩
                · rw [if_neg hz] at h3; exact h3.elim
              | _ => exact h3.elim
            | _ => exact h3.elim
          | _ => exact h3.elim⟩⟩
end
end SM
namespace SM
open PySem PySem.Spec PyProof.Rows L2
/-! ## xs.count(k) of ints, xs.pop(i) -/
def countv : PV → List PV → MH → OR
  | .ref n, [.int k], m => match seq? m n with
    | some xs => (ints? xs).map fun ns => (.int (ns.count k : Nat), m)
    | none => none
  | _, _, _ => none
theorem rvs_erase {K : PySem.W.Frag} {H : Hp} {φ : List Addr} : ∀ {xs : List PV} {vs : List V} (k : Nat), RVs K H φ xs vs → RVs K H φ (xs.eraseIdx k) (vs.eraseIdx k)
  | [], _, k, h => by cases h; exact rfl
  | x :: xs, _, 0, h => by obtain ⟨v, ws, rfl, _, h2⟩ := h; exact h2
  | x :: xs, _, k + 1, h => by obtain ⟨v, ws, rfl, h1, h2⟩ := h; exact ⟨v, _, rfl, h1, rvs_erase k h2⟩
def popv : PV → List PV → MH → OR
  | .ref n, [.int i], m => match lst? m n with
    | some xs => if -(2 ^ 63) ≤ i ∧ i < 2 ^ 63 then match PySem.seqIndex? i xs.length with
      | some k => (xs[k]?).map fun y => (y, m.set n (.lst (xs.eraseIdx k)))
      | none => none
      else none
    | none => none
  | _, _, _ => none
section
variable {X : Cx}
theorem m_count : MtQ X "list.count" countv := .of fun v vs H Q φ m x xs h1 h2 h3 h4 => by
  unfold countv at h4
  split at h4
  · rename_i n k
    cases hq : seq? m n with
    | none => rw [hq] at h4; exact h4.not.elim
    | some ys =>
      rw [hq] at h4
      dsimp only at h4
      obtain ⟨a, ws, rfl, q1, q2⟩ := h1.seq h2 hq
      obtain ⟨w, rfl, r⟩ := h3.one
      cases r
      cases hi : ints? ys with
      | none => rw [hi] at h4; exact h4.not.elim
      | some ns =>
        rw [hi] at h4
        have e := ints_rvs hi q2
        subst e
        exact ⟨_, mt_lcount, a, ns, k, rfl, rfl, q1, h4.same h1 rfl⟩
  · exact h4.not.elim
theorem m_pop : MtQ X "list.pop" popv := .of fun v vs H Q φ m x xs h1 h2 h3 h4 => by
  unfold popv at h4
  split at h4
  · rename_i n i
    split at h4
    · rename_i ys hs
      split at h4
      · rename_i hb
        split at h4
        · rename_i k hk
          obtain ⟨w, rfl, r⟩ := h3.one
          cases r
          obtain ⟨p, ws, e1, rfl, q1, q2⟩ := h1.lst h2 hs
          cases hy : ys[k]? with
          | none => rw [hy] at h4; exact h4.not.elim
          | some y =>
            rw [hy] at h4
            obtain ⟨z, m', e, q⟩ := h4
            cases e
            obtain ⟨u, g1, g2⟩ := q2.get hy
            obtain ⟨e2, e3⟩ := h1.setL e1 (lst_some hs) (rvs_erase k q2)
            exact ⟨_, mt_popAt, p, ws, i, k, u, rfl, rfl, q1, hb.1, hb.2, by rw [q2.length]; exact hk, g1, q _ _ _ e2 e3 (RV.ext e2 g2)⟩
        · exact h4.not.elim
      · exact h4.not.elim
    · exact h4.not.elim
  · exact h4.not.elim
end
end SM

set_option Elab.async false
set_option linter.all false
set_option maxRecDepth 100000
set_option maxHeartbeats 2000000
/-! SM25: exceptions of one class with three fields. -/
namespace SM
open PySem PySem.Spec PyProof.Rows L2
def WEx3 (K : PySem.W.Frag) (C : Addr) (cn : String) (f1 f2 f3 : Str) (E : XK) : XM := fun c fs φ _ m _ H => ∃ y1 y2 y3, c = cn ∧ fs = [y1, y2, y3] ∧ ∀ φ' H' d v1 v2 v3, Ext K φ H φ' H' → RH K H' φ' m → RV K H' φ' y1 v1 → RV K H' φ' y2 v2 → RV K H' φ' y3 v3 → H' d = some (.xd [(f3, v3), (f2, v2), (f1, v1)]) → E (.ref C) (some d) H'
def WTx3 (K : PySem.W.Frag) (C : Addr) (cn : String) (f1 f2 f3 : Str) (Wx : WX) : XM := fun c fs φ l m σ H => ∃ y1 y2 y3, c = cn ∧ fs = [y1, y2, y3] ∧ ∀ φ' H' d v1 v2 v3, Ext K φ H φ' H' → RH K H' φ' m → RL K H' φ' l σ → RV K H' φ' y1 v1 → RV K H' φ' y2 v2 → RV K H' φ' y3 v3 → H' d = some (.xd [(f3, v3), (f2, v2), (f1, v1)]) → Wx (.ref C) (some d) σ H'
def PostX3 (K : PySem.W.Frag) (C : Addr) (cn : String) (f1 f2 f3 : Str) (φ : List Addr) (H : Hp) (r : R PV) (Q : VK) (E : XK) : Prop := match r with
  | .ok x m => ∀ φ' H' v, Ext K φ H φ' H' → RH K H' φ' m → RV K H' φ' x v → Q v H'
  | .ex c fs m => ∀ φ' H', Ext K φ H φ' H' → RH K H' φ' m → WEx3 K C cn f1 f2 f3 E c fs φ' [] m [] H'
  | .bad => False
def SpX3 (K : PySem.W.Frag) (C : Addr) (cn : String) (f1 f2 f3 : Str) (n : Nat) (f : FS) : Sp := fun vs H Q E => vs.length = n ∧ ∃ φ m xs, RH K H φ m ∧ RVs K H φ xs vs ∧ PostX3 K C cn f1 f2 f3 φ H (f xs m) Q E
def SpI3 (K : PySem.W.Frag) (C : Addr) (f1 f2 f3 : Str) : Sp := fun vs H Q _ => ∃ a y1 y2 y3, vs = [.ref a, y1, y2, y3] ∧ H a = some (exo a C none) ∧ ∀ dx, H dx = none → dx ≠ a →
  Q .non (upd (upd (upd (upd H dx (exd dx [(f1, y1)])) a (exo a C (some dx))) dx (exd dx [(f2, y2), (f1, y1)])) dx (exd dx [(f3, y3), (f2, y2), (f1, y1)]))
structure Exc3T (P : Program) (w : World) (K : PySem.W.Frag) (mg : Str → Option Value) (base : Heap) (x : Str) (C : Addr) (f1 f2 f3 : Str) : Prop where
  gC : mg x = some (.ref C)
  T : OexC K C
  ini : ∃ (fI : Addr) (fd : FuncData), PySem.W.findIn K (.ref C) "__init__" = some (some (.ref fI)) ∧ PySem.W.typeIn K (.ref fI) = some (.type "function") ∧ FnOk P w K mg base CX0 1 fI fd ["self", f1, f2, f3] (SpI3 K C f1 f2 f3) ∧ Binds K fd ["self", f1, f2, f3] []
  no1 : PySem.W.findIn K (.ref C) f1 = some none
  no2 : PySem.W.findIn K (.ref C) f2 = some none
  no3 : PySem.W.findIn K (.ref C) f3 = some none
  xf : XfC K C
  te : PySem.W.exmOne K (.ref C) (.ref C) = some true
section
variable {P : Program} {w : World} {K : PySem.W.Frag} {mg : Str → Option Value} {base : Heap}
theorem ok3I {x qual : Str} {st : Stmt} {f C : Addr} {fd : FuncData} {N : List Str} {f1 f2 f3 : Str} (F : Fun K x qual st f fd) (S : FnScope N ["self", f1, f2, f3] (defScope st)) (hN : N = ([("self" : Str), f1, f2, f3] : List Str)) (T : OexC K C) (no1 : PySem.W.findIn K (.ref C) f1 = some none) (no2 : PySem.W.findIn K (.ref C) f2 = some none) (no3 : PySem.W.findIn K (.ref C) f3 = some none)
    (hb : ∀ (cdv : Value) (A : Around) (outer : List Env) (s : Shared) (H : Hp) (E : XK), PSs (cxOf CX0 P w K mg base N qual (defScope st) f cdv A outer s H E).nox (defBody st) (tSeq (tOst K f1 (tVar 0) (tVar 1)) (tSeq (tOst K f2 (tVar 0) (tVar 2)) (tOst K f3 (tVar 0) (tVar 3))))) : FnOk P w K mg base CX0 1 f fd ["self", f1, f2, f3] (SpI3 K C f1 f2 f3) := by
  refine F.ok (k := 0) S (fun vs H Q E h => by obtain ⟨a, y1, y2, y3, rfl, _⟩ := h; rfl) fun cdv A outer s H vs Q E hr hsp => ?_
  obtain ⟨a, y1, y2, y3, rfl, ha, hq⟩ := hsp
  refine ⟨_, hb cdv A outer s H E, ?_⟩
  subst hN
  refine ⟨y1, rfl, .ref a, rfl, a, C, rfl, T, no1, .inl ⟨ha, fun dx n ne => ?_⟩⟩
  refine ⟨y2, rfl, .ref a, rfl, a, C, rfl, T, no2, .inr ⟨dx, [(f1, y1)], upd_same, by rw [upd_ne ne, upd_same], by simp, ?_⟩⟩
  exact ⟨y3, rfl, .ref a, rfl, a, C, rfl, T, no3, .inr ⟨dx, [(f2, y2), (f1, y1)], by rw [upd_ne (Ne.symm ne), upd_same], upd_same, by simp, hq dx n ne⟩⟩
theorem okX3Q {x qual : Str} {st : Stmt} {f : Addr} {fd : FuncData} {N ps : List Str} {k : Nat} {C : Addr} {cn : String} {f1 f2 f3 : Str} (F : Fun K x qual st f fd) (S : FnScope N ps (defScope st)) (b : SS)
    (h : ∀ (cdv : Value) (A : Around) (outer : List Env) (s : Shared) (H : Hp) (E : XK), Room k (A.deeper (envOfC qual (defScope st) s.heap.objs.size f cdv)) →
      QSs (cxOf (L2.CX P w) P w K mg base N qual (defScope st) f cdv A outer s H E) (WEx3 K C cn f1 f2 f3 E) (defBody st) b) : FnOk P w K mg base (L2.CX P w) (k + 1) f fd ps (SpX3 K C cn f1 f2 f3 ps.length (fnS ps.length N.length b)) := by
  refine F.okX S (fun vs H Q E h => h.1) fun cdv A outer s H vs Q E hr hsp => ?_
  obtain ⟨hl, φ, m, xs, h1, h2, h3⟩ := hsp
  have hle : ps.length ≤ N.length := by
    have := congrArg List.length S.pre
    rw [List.length_take] at this
    omega
  have hxl : xs.length = ps.length := by rw [← h2.length]; exact hl
  refine ⟨_, (h cdv A outer s H E hr).ps, φ, _, m, h1, rl_start hle h2 hxl, ?_⟩
  unfold fnS at h3
  rw [if_pos hxl] at h3
  cases hb : b (xs.map some ++ List.replicate (N.length - ps.length) none) m with
  | nx l m' => rw [hb] at h3; exact fun φ' σ' H' x a b => h3 φ' H' _ x a rfl
  | rt y m' => rw [hb] at h3; exact h3
  | bk l m' => rw [hb] at h3; exact h3.elim
  | ct l m' => rw [hb] at h3; exact h3.elim
  | ex c fs l m' => rw [hb] at h3; exact fun φ' σ' H' x a b => h3 φ' H' x a
  | bad => rw [hb] at h3; exact h3.elim
end
def Cal3 (P : Program) (w : World) (K : PySem.W.Frag) (mg : Str → Option Value) (base : Heap) (C : Addr) (cn : String) (f1 f2 f3 : Str) (x : Str) (n k : Nat) (f : FS) : Prop :=
  ∃ (fa : Addr) (fd : FuncData) (ps : List Str), ps.length = n ∧ FnOk P w K mg base (L2.CX P w) k fa fd ps (SpX3 K C cn f1 f2 f3 n f) ∧ mg x = some (.ref fa) ∧ PySem.W.keepIn K (.ref fa) = true ∧ Binds K fd ps []
theorem cal3_mk {P : Program} {w : World} {K : PySem.W.Frag} {mg : Str → Option Value} {base : Heap} {C : Addr} {cn : String} {f1 f2 f3 : Str} {x qual : Str} {st : Stmt} {f : Addr} {fd : FuncData} {ps : List Str} {k n : Nat} {g : FS} (hn : ps.length = n) (G : FnOk P w K mg base (L2.CX P w) k f fd ps (SpX3 K C cn f1 f2 f3 n g)) (F : Fun K x qual st f fd) (hm : mg x = some (.ref f)) (hb : Binds K fd ps []) : Cal3 P w K mg base C cn f1 f2 f3 x n k g :=
  ⟨f, fd, ps, hn, G, hm, F.kp, hb⟩
section
variable {X : Cx} {a b c : Expr} {ses : SA} {x f1 f2 f3 : Str} {cn : String} {C : Addr} {E : XK} {p pos pos2 : Pos}
theorem x_raise3 (hc : X.calm = true) (T : Exc3T X.prog X.w X.K X.mg X.base x C f1 f2 f3) (hr : Room 2 X.A) (tk : Takes X (fun cls d _ H => E cls d H)) (ha : QA X (WEx3 X.K C cn f1 f2 f3 E) [a, b, c] ses) (hg : Gl X x := by rfl) (hdb : (x == ("__debug__" : Str)) = false := by decide)
    (he : starEach [a, b, c] X.env = (false, eval a X.env) :: starEach [b, c] X.env := by rfl) (hpl : (backTo pos (starEach [b, c] X.env)).any (·.1) = false := by rfl) :
    QS X (WEx3 X.K C cn f1 f2 f3 E) (.Raise (some (.Call (.Name x p) [a, b, c] [] pos)) none pos2) (xRaise cn ses) := by
  obtain ⟨fI, fd, iC, tI, F, hb⟩ := T.ini
  refine ⟨ps_imp (ps_raise hc tk (pmk_oex T.T iC tI F hr hb .nil pass0 hg T.gC ha.pa hdb he hpl)) fun D σ H ⟨φ, l, m, h1, h2, h3⟩ => ?_⟩
  refine ⟨φ, l, m, h1, h2, (PostS.then (rel := rA X.K) h2 h3).mono ?_⟩
  rintro vs H1 ⟨φ1, xs, m1, e1, a1, b1, c1, d1⟩
  obtain ⟨y1, y2, y3, _, rfl, fin⟩ := d1 φ1 σ H1 Ext.refl a1 b1
  obtain ⟨v1, _, rfl, r1, v2, _, rfl, r2, v3, _, rfl, r3, rfl⟩ := c1
  refine ⟨by simp, fun q hq => ⟨q, v1, v2, v3, rfl, upd_same, fun dx n ne => ?_⟩⟩
  have hdx : H1 dx = none := by rw [upd_ne ne] at n; exact n
  refine ⟨rfl, dx, [(f3, v3), (f2, v2), (f1, v1)], by rw [upd_ne (Ne.symm ne), upd_ne (Ne.symm ne), upd_same], upd_same, hdx, ?_⟩
  have eH : upd (del (upd (upd (upd (upd (upd H1 q (exo q C none)) dx (exd dx [(f1, v1)])) q (exo q C (some dx))) dx (exd dx [(f2, v2), (f1, v1)])) dx (exd dx [(f3, v3), (f2, v2), (f1, v1)])) q) dx (.xd [(f3, v3), (f2, v2), (f1, v1)]) = upd H1 dx (.xd [(f3, v3), (f2, v2), (f1, v1)]) := by
    funext b
    by_cases hb1 : b = dx
    · subst hb1; rw [upd_same, upd_same]
    · rw [upd_ne hb1, upd_ne hb1]
      by_cases hb2 : b = q
      · subst hb2; rw [del_same, hq]
      · rw [del_ne hb2, upd_ne hb1, upd_ne hb1, upd_ne hb2, upd_ne hb1, upd_ne hb2]
  rw [eH]
  obtain ⟨x1, x2⟩ := a1.newX (u := .xd [(f3, v3), (f2, v2), (f1, v1)]) hdx
  exact fin φ1 _ dx v1 v2 v3 x1 x2 (RV.ext x1 r1) (RV.ext x1 r2) (RV.ext x1 r3) upd_same
end
section
variable {X : Cx} {e : Expr} {es : List Expr} {ses : SA} {x f1 f2 f3 : Str} {cn : String} {C : Addr} {Wx : WX} {p pos : Pos} {n k j : Nat} {f : FS}
theorem q_call3 (Cl : Cal3 X.prog X.w X.K X.mg X.base C cn f1 f2 f3 x n k f) (hr : Room j X.A) (hk : k ≤ j) (hg : Gl X x) (tk : Takes X Wx) (ha : QA X (WTx3 X.K C cn f1 f2 f3 Wx) (e :: es) ses) (hdb : (x == ("__debug__" : Str)) = false := by decide)
    (he : starEach (e :: es) X.env = (false, eval e X.env) :: starEach es X.env := by rfl) (hpl : (backTo pos (starEach es X.env)).any (·.1) = false := by rfl) : QE X (WTx3 X.K C cn f1 f2 f3 Wx) (.Call (.Name x p) (e :: es) [] pos) (sCallX n f ses) := by
  obtain ⟨fa, fd, ps, hps, F, hm, hkp, hb⟩ := Cl
  refine ⟨pe_imp (pe_callS (E := fun σ => L2.WE Wx σ) F (hr.mono hk) hg hm hkp hb (fun σ => passAt tk σ) ha.pa hdb he hpl) fun σ H Q ⟨φ, l, m, h1, h2, h3⟩ => ?_⟩
  refine ⟨φ, l, m, h1, h2, (Post.bind (rel := rA X.K) h2 h3).mono ?_⟩
  rintro vs H1 ⟨φ1, xs, m1, e1, a1, b1, c1, d1⟩
  by_cases hz : xs.length = n
  · rw [if_pos hz] at d1
    refine ⟨by rw [RVs.length c1]; exact hz, φ1, m1, xs, a1, c1, ?_⟩
    cases hf : f xs m1 with
    | ok y m' => rw [hf] at d1; exact d1
    | ex c fs m' =>
      rw [hf] at d1
      intro φ2 H2 x2 a2
      obtain ⟨y1, y2, y3, q1, q2, q3⟩ := d1 φ2 H2 x2 a2
      exact ⟨y1, y2, y3, q1, q2, fun φ3 H3 d v1 v2 v3 x3 a3 r1 r2 r3 e3 => q3 φ3 H3 d v1 v2 v3 x3 a3 ((b1.ext x2).ext x3) r1 r2 r3 e3⟩
    | bad => rw [hf] at d1; exact d1.elim
  · rw [if_neg hz] at d1
    exact d1.elim
theorem q_call3E {E : XK} (Cl : Cal3 X.prog X.w X.K X.mg X.base C cn f1 f2 f3 x n k f) (hr : Room j X.A) (hk : k ≤ j) (hg : Gl X x) (tk : Takes X (fun cls d _ H => E cls d H)) (ha : QA X (WEx3 X.K C cn f1 f2 f3 E) (e :: es) ses) (hdb : (x == ("__debug__" : Str)) = false := by decide)
    (he : starEach (e :: es) X.env = (false, eval e X.env) :: starEach es X.env := by rfl) (hpl : (backTo pos (starEach es X.env)).any (·.1) = false := by rfl) : QE X (WEx3 X.K C cn f1 f2 f3 E) (.Call (.Name x p) (e :: es) [] pos) (sCallX n f ses) := by
  obtain ⟨fa, fd, ps, hps, F, hm, hkp, hb⟩ := Cl
  refine ⟨pe_imp (pe_callS (E := fun σ => L2.WE (fun cls d _ H => E cls d H) σ) F (hr.mono hk) hg hm hkp hb (fun σ => passAt tk σ) ha.pa hdb he hpl) fun σ H Q ⟨φ, l, m, h1, h2, h3⟩ => ?_⟩
  refine ⟨φ, l, m, h1, h2, (Post.bind (rel := rA X.K) h2 h3).mono ?_⟩
  rintro vs H1 ⟨φ1, xs, m1, e1, a1, b1, c1, d1⟩
  by_cases hz : xs.length = n
  · rw [if_pos hz] at d1
    refine ⟨by rw [RVs.length c1]; exact hz, φ1, m1, xs, a1, c1, ?_⟩
    cases hf : f xs m1 with
    | ok y m' => rw [hf] at d1; exact d1
    | ex c fs m' =>
      rw [hf] at d1
      intro φ2 H2 x2 a2
      exact d1 φ2 H2 x2 a2
    | bad => rw [hf] at d1; exact d1.elim
  · rw [if_neg hz] at d1
    exact d1.elim
end
/-! ### try: .. except C as n: return [n.f1, n.f2, n.f3] -/
def xTry3 (cn : String) (i : Nat) (sb : SS) : SS := fun l m => match sb l m with
  | .ex c [y1, y2, y3] l' m' => if c = cn ∧ i < l'.length then .rt (.ref m'.length) (m' ++ [.lst [y1, y2, y3]]) else .bad
  | .ex _ _ _ _ => .bad
  | r => r
section
variable {X : Cx} {W : XM} {body : List Stmt} {sb : SS} {x n f1 f2 f3 : Str} {cn : String} {C : Addr} {i : Nat} {np p1 p2 p3 q1 q2 q3 pl pr pos pos' : Pos}
theorem x_try3 (i : Nat) (hs : X.stack = X.env :: X.outer) (hf : X.env.frame = some X.env.locals) (hN : X.N.Nodup) (hi : X.N[i]? = some n) (hln : X.env.kindOf n = some .local) (T : Exc3T X.prog X.w X.K X.mg X.base x C f1 f2 f3) (hg : Gl X x)
    (hb : ∀ (Wx : WX) (pn : List (Addr × Obj)) (xe : Value → Shared → Prop), Takes (X.tr pn xe) Wx → PassesOwn (model X.prog X.w) X.A X.env xe → QSs (X.tr pn xe) (WTx3 X.K C cn f1 f2 f3 Wx) body sb)
    (hv : Vis X.env.scope n) (hd12 : f1 ≠ f2) (hd13 : f1 ≠ f3) (hd23 : f2 ≠ f3)
    (ha1 : attributeBase (.Name n p1) f1 X.env (eval (.Name n p1) X.env) = eval (.Name n p1) X.env) (ha2 : attributeBase (.Name n p2) f2 X.env (eval (.Name n p2) X.env) = eval (.Name n p2) X.env) (ha3 : attributeBase (.Name n p3) f3 X.env (eval (.Name n p3) X.env) = eval (.Name n p3) X.env)
    (he1 : starEach [.Attribute (.Name n p1) f1 q1, .Attribute (.Name n p2) f2 q2, .Attribute (.Name n p3) f3 q3] X.env = (false, eval (.Attribute (.Name n p1) f1 q1) X.env) :: starEach [.Attribute (.Name n p2) f2 q2, .Attribute (.Name n p3) f3 q3] X.env)
    (he2 : starEach [.Attribute (.Name n p2) f2 q2, .Attribute (.Name n p3) f3 q3] X.env = (false, eval (.Attribute (.Name n p2) f2 q2) X.env) :: starEach [.Attribute (.Name n p3) f3 q3] X.env)
    (he3 : starEach [.Attribute (.Name n p3) f3 q3] X.env = (false, eval (.Attribute (.Name n p3) f3 q3) X.env) :: starEach [] X.env)
    (hdb : (x == ("__debug__" : Str)) = false := by decide) (hdn : (n == ("__debug__" : Str)) = false := by decide) (hcd : (n == ("__classdict__" : Str)) = false := by decide) :
    QS X W (.Try body [.ExceptHandler (some (.Name x np)) (some n) [.Return (some (.List [.Attribute (.Name n p1) f1 q1, .Attribute (.Name n p2) f2 q2, .Attribute (.Name n p3) f3 q3] pl)) pr] pos'] [] [] pos) (xTry3 cn i sb) :=
  ⟨ps_imp (ps_try_as (tb := fun Wx => RdS X.K (WTx3 X.K C cn f1 f2 f3 Wx) sb) (ts := fun a cls d => tRet (tLst (tCons (tXf a cls d C f1 (tVar i)) (tCons (tXf a cls d C f2 (tVar i)) (tCons (tXf a cls d C f3 (tVar i)) tNil))))) hs hf hN hi hln ⟨hg, hdb, .inl T.gC⟩ (L2.takes0 (X := X)) (fun Wx pn xe tk po => (hb Wx pn xe tk po).ps)
    (fun a oe cls d pn hz hff => pss_one (ps_ret (X := X.suite a ((a, oe) :: pn)) (pe_lst (X := X.suite a ((a, oe) :: pn)) (pa_cons (X := X.suite a ((a, oe) :: pn)) (pe_xf T.xf T.no1 hz hff (pe_var (i := i) hi hv hdn hcd) ha1) (pa_cons (X := X.suite a ((a, oe) :: pn)) (pe_xf T.xf T.no2 hz hff (pe_var (i := i) hi hv hdn hcd) ha2) (pa_cons (X := X.suite a ((a, oe) :: pn)) (pe_xf T.xf T.no3 hz hff (pe_var (i := i) hi hv hdn hcd) ha3) pa_nil he3) he2) he1))))) fun D σ H ⟨φ, l, m, h1, h2, h3⟩ => by
    refine ⟨φ, l, m, h1, h2, ?_⟩
    unfold xTry3 at h3
    cases hsb : sb l m with
    | nx l' m' => rw [hsb] at h3; exact h3
    | rt y m' => rw [hsb] at h3; exact h3
    | bk l' m' => rw [hsb] at h3; exact h3
    | ct l' m' => rw [hsb] at h3; exact h3
    | bad => rw [hsb] at h3; exact h3
    | ex c fs l' m' =>
      rw [hsb] at h3
      match fs, h3 with
      | [], h3 => exact h3.elim
      | [_], h3 => exact h3.elim
      | [_, _], h3 => exact h3.elim
      | [y1, y2, y3], h3 =>
        dsimp only at h3
        by_cases hz : c = cn ∧ i < l'.length
        · rw [if_pos hz] at h3
          intro φ1 σ1 H1 x1 a1 b1
          refine ⟨y1, y2, y3, hz.1, rfl, fun φ2 H2 d v1 v2 v3 x2 a2 b2 r1 r2 r3 e2 => ⟨true, T.te, fun _ a na => ?_, fun z => by cases z⟩⟩
          have hil : i < σ1.length := by rw [← b2.1]; exact hz.2
          have L1 : List.lookup f1 [(f3, v3), (f2, v2), (f1, v1)] = some v1 := by simp [List.lookup, beq_false_of_ne hd12, beq_false_of_ne hd13]
          have L2' : List.lookup f2 [(f3, v3), (f2, v2), (f1, v1)] = some v2 := by simp [List.lookup, beq_false_of_ne hd23]
          have L3 : List.lookup f3 [(f3, v3), (f2, v2), (f1, v1)] = some v3 := by simp [List.lookup]
          refine ⟨.ref a, List.getElem?_set_self hil, rfl, rfl, d, _, v1, rfl, e2, L1, ?_⟩
          refine ⟨.ref a, List.getElem?_set_self hil, rfl, rfl, d, _, v2, rfl, e2, L2', ?_⟩
          refine ⟨.ref a, List.getElem?_set_self hil, rfl, rfl, d, _, v3, rfl, e2, L3, ?_⟩
          refine ⟨by show 3 ≤ sizeLine; decide, fun p hp => ?_⟩
          obtain ⟨g1, g2, g3⟩ := a2.newL (xs := [y1, y2, y3]) (vs := [v1, v2, v3]) hp ⟨_, _, rfl, r1, _, _, rfl, r2, _, _, rfl, r3, rfl⟩
          exact h3 _ _ _ ((x1.trans x2).trans g1) g2 g3
        · rw [if_neg hz] at h3; exact h3.elim
      | _ :: _ :: _ :: _ :: _, h3 => exact h3.elim⟩
end
end SM

set_option Elab.async false
set_option linter.all false
set_option maxRecDepth 100000
set_option maxHeartbeats 2000000
/-! SM26: a dict with ints as keys walked by its keys (locked meanwhile); dict comprehensions. -/
namespace SM
open PySem PySem.Spec PyProof.Rows L2
section
variable {K : PySem.W.Frag} {H : Hp} {φ : List Addr} {m : MH} {n : Nat} {a : Addr} {kvs : List (Int × PV)} {ws : List (Key × V)} {od : Obj}
theorem RH.lockK (od : Obj) (h : RH K H φ m) (hk : φ[n]? = some a) (hm : m[n]? = some (.dck kvs)) (ha : H a = some (.dK ws)) :
    Ext K φ H φ (upd H a (.frz od (.dK ws))) ∧ RH K (upd H a (.frz od (.dK ws))) φ (m.set n (.frk kvs)) := by
  obtain ⟨ws', q1, q2⟩ := h.obj n a _ hk hm
  rw [ha] at q1; cases q1
  exact h.setM hk hm rfl ha (fun _ z => by cases z) (fun _ _ z => by cases z) rfl fun e => ⟨od, ws, upd_same, q2.ext e⟩
theorem RH.unlockK (h : RH K H φ m) (hk : φ[n]? = some a) (hm : m[n]? = some (.frk kvs)) (ha : H a = some (.frz od (.dK ws))) :
    ExtT K φ H φ (upd H a (.dK ws)) ∧ RH K (upd H a (.dK ws)) φ (m.set n (.dck kvs)) := by
  obtain ⟨od', ws', q1, q2⟩ := h.obj n a _ hk hm
  rw [ha] at q1; cases q1
  exact h.setG hk hm rfl (fun _ _ w => sqt_upd_frk ha w) (fun _ _ w => sqf_upd_frk ha w) rfl fun e => ⟨ws, upd_same, q2.extT e⟩
/-- the link from before the lock to behind it -/
theorem Ext.locked {φ' : List Addr} {H' : Hp} (ha : H a = some (.dK ws)) (x : Ext K φ (upd H a (.frz od (.dK ws))) φ' H') (x0 : Ext K φ H φ (upd H a (.frz od (.dK ws)))) : H' a = some (.frz od (.dK ws)) ∧ Ext K φ H φ' (upd H' a (.dK ws)) := by
  have h1 := x.frz a od ws upd_same
  refine ⟨h1, x.pre, fun b vs w => sqt_upd_frk h1 (x.tup b vs (x0.tup b vs w)), fun b od' ws' w => ?_⟩
  have hb : b ≠ a := fun z => by rw [z, ha] at w; cases w
  rw [upd_ne hb]
  exact x.frz b od' ws' (by rw [upd_ne hb]; exact w)
end
/-- a dict's keys; the dict is locked -/
def iKeysS (i : Nat) : SI := fun l m => match l[i]? with
  | some (some (.ref n)) => match m[n]? with
    | some (.frk kvs) => .ok ⟨kvs.map fun p => .int p.1, none⟩ m
    | _ => .bad
  | _ => .bad
theorem rks_at {K : PySem.W.Frag} {H : Hp} {φ : List Addr} {κ κ' : Type} {enc : κ → κ'} : ∀ {kvs : List (κ × PV)} {ws : List (κ' × V)} {i : Nat} {p : κ' × V}, RKs K H φ enc kvs ws → ws[i]? = some p → ∃ q, kvs[i]? = some q ∧ p.1 = enc q.1
  | [], _, i, p, h, e => by cases h; simp at e
  | q :: kvs, _, 0, p, h, e => by
    obtain ⟨v, t, rfl, _, _⟩ := h
    simp at e; subst e
    exact ⟨q, by simp, rfl⟩
  | q :: kvs, _, i + 1, p, h, e => by
    obtain ⟨v, t, rfl, _, h3⟩ := h
    simp at e
    obtain ⟨z, h4, h5⟩ := rks_at h3 e
    exact ⟨z, by simpa using h4, h5⟩
section
variable {X : Cx} {W : XM} {tg e : Expr} {i : Nat} {st : Stmt} {s : SS} {se : SE}
theorem i_keys (he : QE X W e (sVar i)) : QI X W tg e (iKeysS i) := ⟨pi_imp (pi_keys he.pe) fun σ H RR ⟨φ, l, m, h1, h2, h3⟩ => by
  refine ⟨φ, l, m, h1, h2, ?_⟩
  unfold iKeysS at h3
  unfold sVar
  cases hl : l[i]? with
  | none => rw [hl] at h3; exact h3.elim
  | some o =>
    cases o with
    | none => rw [hl] at h3; exact h3.elim
    | some x =>
      rw [hl] at h3
      cases x with
      | ref n =>
        dsimp only at h3
        cases hm : m[n]? with
        | none => rw [hm] at h3; exact h3.elim
        | some ob =>
          rw [hm] at h3
          cases ob with
          | frk kvs =>
            rintro φ' H' v x1 a1 ⟨d, hd, rfl⟩
            obtain ⟨od, ws, q1, q2⟩ := a1.obj n d _ hd hm
            refine ⟨d, od, rfl, .inl ⟨ws, q1, h3 φ' H' _ x1 a1 ?_⟩⟩
            have w0 := walk_keys (d := d) (o := od) (kvs := ws)
            rw [show (kvs.map fun p : Int × PV => PV.int p.1).length = ws.length by rw [List.length_map, rks_len q2]]
            refine w0.mono (fun H2 ⟨φ2, m2, x2, _⟩ => x2.frz _ _ _ q1) fun j H2 v H3 hj ⟨φ2, m2, x2, _⟩ y => ⟨y.1, fun φ3 m3 x3 a3 _ => ?_⟩
            obtain ⟨k, u, e1, rfl⟩ := y.2
            obtain ⟨q, e2, e3⟩ := rks_at q2 e1
            refine ⟨.int q.1, by rw [List.getElem?_map, e2]; rfl, ?_⟩
            dsimp only at e3
            rw [e3]
            rfl
          | _ => exact h3.elim
      | _ => exact h3.elim⟩
open Classical in
noncomputable def unl (n : Nat) (kvs : List (Int × PV)) (k : MH → α) (b : α) (m : MH) : α := if m[n]? = some (.frk kvs) then k (m.set n (.dck kvs)) else b
noncomputable def xLock (i : Nat) (s : SS) : SS := fun l m => match l[i]? with
  | some (some (.ref n)) => match m[n]? with
    | some (.dck kvs) => match s l (m.set n (.frk kvs)) with
      | .nx l' m' => unl n kvs (.nx l') .bad m'
      | .rt x m' => unl n kvs (.rt x) .bad m'
      | .bk l' m' => unl n kvs (.bk l') .bad m'
      | .ct l' m' => unl n kvs (.ct l') .bad m'
      | _ => .bad
    | some (.frk _) => s l m
    | _ => .bad
  | _ => .bad
noncomputable def sLock (i : Nat) (s : SE) : SE := fun l m => match l[i]? with
  | some (some (.ref n)) => match m[n]? with
    | some (.dck kvs) => match s l (m.set n (.frk kvs)) with
      | .ok x m' => unl n kvs (.ok x) .bad m'
      | _ => .bad
    | some (.frk _) => s l m
    | _ => .bad
  | _ => .bad
theorem ps_or {t t' : TS} (h : PS X st t) (h' : PS X st t') : PS X st (fun D σ H => t D σ H ∨ t' D σ H) := ⟨fun pins s σ H D I q => by
  rcases q with q | q
  · exact h.run pins s σ H D I q
  · exact h'.run pins s σ H D I q⟩
theorem pe_or2 {t t' : TE} (h : PE X e t) (h' : PE X e t') : PE X e (fun σ H Q => t σ H Q ∨ t' σ H Q) := ⟨fun pins s σ H Q I q => by
  rcases q with q | q
  · exact h.run pins s σ H Q I q
  · exact h'.run pins s σ H Q I q⟩
theorem x_lock (h : QS X W st s) : QS X W st (xLock i s) := ⟨ps_imp (ps_or (ps_lock h.ps) h.ps) fun D σ H ⟨φ, l, m, h1, h2, h3⟩ => by
  unfold xLock at h3
  cases hl : l[i]? with
  | none => rw [hl] at h3; exact h3.elim
  | some o =>
    cases o with
    | none => rw [hl] at h3; exact h3.elim
    | some x =>
      rw [hl] at h3
      cases x with
      | ref n =>
        dsimp only at h3
        cases hm : m[n]? with
        | none => rw [hm] at h3; exact h3.elim
        | some ob =>
          rw [hm] at h3
          cases ob with
          | frk kvs => exact .inr ⟨φ, l, m, h1, h2, h3⟩
          | dck kvs =>
            dsimp only at h3
            refine .inl ?_
            obtain ⟨a, ha⟩ : ∃ a, φ[n]? = some a := ⟨φ[n]'(by rw [h1.len]; exact (List.getElem?_eq_some_iff.mp hm).1), List.getElem?_eq_getElem _⟩
            obtain ⟨ws, q1, q2⟩ := h1.obj n a _ ha hm
            refine ⟨a, .dK ws, q1, trivial, fun od => ?_⟩
            obtain ⟨x0, g1⟩ := h1.lockK od ha hm q1
            refine ⟨φ, l, _, g1, h2.ext x0, ?_⟩
            cases hs : s l (m.set n (.frk kvs)) with
            | nx l' m' =>
              rw [hs] at h3
              intro φ' σ' H' x1 a1 b1
              obtain ⟨y1, y2⟩ := Ext.locked q1 x1 x0
              refine ⟨y1, ?_⟩
              dsimp only at h3
              unfold unl at h3
              split at h3
              · rename_i hf
                obtain ⟨z1, z2⟩ := a1.unlockK (x1.get ha) hf y1
                exact h3 φ' σ' _ y2 z2 (b1.extT z1)
              · exact h3.elim
            | bk l' m' =>
              rw [hs] at h3
              intro φ' σ' H' x1 a1 b1
              obtain ⟨y1, y2⟩ := Ext.locked q1 x1 x0
              refine ⟨y1, ?_⟩
              dsimp only at h3
              unfold unl at h3
              split at h3
              · rename_i hf
                obtain ⟨z1, z2⟩ := a1.unlockK (x1.get ha) hf y1
                exact h3 φ' σ' _ y2 z2 (b1.extT z1)
              · exact h3.elim
            | ct l' m' =>
              rw [hs] at h3
              intro φ' σ' H' x1 a1 b1
              obtain ⟨y1, y2⟩ := Ext.locked q1 x1 x0
              refine ⟨y1, ?_⟩
              dsimp only at h3
              unfold unl at h3
              split at h3
              · rename_i hf
                obtain ⟨z1, z2⟩ := a1.unlockK (x1.get ha) hf y1
                exact h3 φ' σ' _ y2 z2 (b1.extT z1)
              · exact h3.elim
            | rt x m' =>
              rw [hs] at h3
              intro φ' H' v x1 a1 b1
              obtain ⟨y1, y2⟩ := Ext.locked q1 x1 x0
              refine ⟨y1, ?_⟩
              dsimp only at h3
              unfold unl at h3
              split at h3
              · rename_i hf
                obtain ⟨z1, z2⟩ := a1.unlockK (x1.get ha) hf y1
                exact h3 φ' _ v y2 z2 (b1.extT z1)
              · exact h3.elim
            | ex c fs l' m' => rw [hs] at h3; exact h3.elim
            | bad => rw [hs] at h3; exact h3.elim
          | _ => exact h3.elim
      | _ => exact h3.elim⟩
theorem q_lock (h : QE X W e se) : QE X W e (sLock i se) := ⟨pe_imp (pe_or2 (pe_lock h.pe) h.pe) fun σ H Q ⟨φ, l, m, h1, h2, h3⟩ => by
  unfold sLock at h3
  cases hl : l[i]? with
  | none => rw [hl] at h3; exact h3.elim
  | some o =>
    cases o with
    | none => rw [hl] at h3; exact h3.elim
    | some x =>
      rw [hl] at h3
      cases x with
      | ref n =>
        dsimp only at h3
        cases hm : m[n]? with
        | none => rw [hm] at h3; exact h3.elim
        | some ob =>
          rw [hm] at h3
          cases ob with
          | frk kvs => exact .inr ⟨φ, l, m, h1, h2, h3⟩
          | dck kvs =>
            dsimp only at h3
            refine .inl ?_
            obtain ⟨a, ha⟩ : ∃ a, φ[n]? = some a := ⟨φ[n]'(by rw [h1.len]; exact (List.getElem?_eq_some_iff.mp hm).1), List.getElem?_eq_getElem _⟩
            obtain ⟨ws, q1, q2⟩ := h1.obj n a _ ha hm
            refine ⟨a, .dK ws, q1, trivial, fun od => ?_⟩
            obtain ⟨x0, g1⟩ := h1.lockK od ha hm q1
            refine ⟨φ, l, _, g1, h2.ext x0, ?_⟩
            cases hs : se l (m.set n (.frk kvs)) with
            | ok x m' =>
              rw [hs] at h3
              intro φ' H' v x1 a1 b1
              obtain ⟨y1, y2⟩ := Ext.locked q1 x1 x0
              refine ⟨y1, ?_⟩
              dsimp only at h3
              unfold unl at h3
              split at h3
              · rename_i hf
                obtain ⟨z1, z2⟩ := a1.unlockK (x1.get ha) hf y1
                exact h3 φ' _ v y2 z2 (RV.extT z1 b1)
              · exact h3.elim
            | ex c fs m' => rw [hs] at h3; exact h3.elim
            | bad => rw [hs] at h3; exact h3.elim
          | _ => exact h3.elim
      | _ => exact h3.elim⟩
end
/-! ## {k: v for ..}, the keys ints -/
open Classical in
noncomputable def compD (it : ITM) (g : STg) (t : SB) (sk sv : SE) (d : Nat) (l0 : SM.Loc) : List PV → MH → R PV
  | [], m => if it.ok m then .ok (.ref d) m else .bad
  | x :: r, m => if it.ok m then match g x l0 m with
      | some (l1, m1) => match t l1 m1 with
        | .ok b m2 => if b = true then match sk l1 m2 with
            | .ok y m3 => match sv l1 m3 with
              | .ok z m4 => match y, m4[d]? with
                | .int k, some (.dck kvs) => if kvs.length < 16777216 then compD it g t sk sv d l0 r (m4.set d (.dck (putD kvs k z))) else .bad
                | _, _ => .bad
              | _ => .bad
            | _ => .bad
          else compD it g t sk sv d l0 r m2
        | _ => .bad
      | none => .bad
    else .bad
noncomputable def sDc (si : SI) (g : STg) (t : SB) (sk sv : SE) (vs : List Nat) : SE := fun l m => (si l m).bind fun it m1 => compD it g t sk sv m1.length (wipeP l vs) it.items (m1 ++ [.dck []])
section
variable {X : Cx} {W : XM} {kx vx tg iter : Expr} {ifs : List Expr} {scope : Scope} {own : List (Str × Nat)} {pos : Pos} {si : SI} {g : STg} {t : SB} {sk sv : SE}
/-- a dict comprehension over it: Pv by the turn and the heap (the new dict at D within) -/
theorem dc_it {J : It} {n : Nat} {G : Hp → Prop} {Y : Nat → Hp → V → Hp → Prop} (w : Walk J n G Y) {g : TG} {tt : TT} {tk tv : TE} {vs : List Nat} {σ : L2.St} {H1 : Hp} {D : Addr} {Qd : Hp → Prop} (Pv : Nat → Hp → Prop) (h0 : Pv 0 (upd H1 D (.dK []))) (hG : ∀ i H, i ≤ n → Pv i H → G H)
    (hs : ∀ i x H H', i < n → Pv i H → Y i H x H' → g x (wipe σ vs) H' fun σ2 H2 => wipe σ2 vs = wipe σ vs ∧ tt σ2 H2 fun b H3 =>
      if b = true then tk σ2 H3 fun y H4 => tv σ2 H4 fun z H5 => ∃ kvs k, y = kV k ∧ H5 D = some (.dK kvs) ∧ kvs.length < sizeLine ∧ Pv (i + 1) (upd H5 D (.dK (putK kvs k z))) else Pv (i + 1) H3) (hd : ∀ H, Pv n H → Qd H) :
    ∃ W : Nat → Nat → Hp → Prop, (∃ m, W 0 m (upd H1 D (.dK []))) ∧ ∀ i m H, W i m H →
      (J.stop i H ∧ Qd H) ∨ (J.go i H ∧ ∃ Nx : Hp → Prop, (∀ H', Nx H' → ∃ m', m' < m ∧ W (i + 1) m' H') ∧ ∀ x H', J.yld i H x H' → g x (wipe σ vs) H' fun σ2 H2 => wipe σ2 vs = wipe σ vs ∧ tt σ2 H2 fun b H3 =>
        if b = true then tk σ2 H3 fun y H4 => tv σ2 H4 fun z H5 => ∃ kvs k, y = kV k ∧ H5 D = some (.dK kvs) ∧ kvs.length < sizeLine ∧ Nx (upd H5 D (.dK (putK kvs k z))) else Nx H3) := by
  refine ⟨fun i m H => m = n - i ∧ i ≤ n ∧ Pv i H, ⟨n, by simp, Nat.zero_le _, h0⟩, ?_⟩
  rintro i m H ⟨rfl, hi, p⟩
  have q := hG i H hi p
  by_cases hlt : i < n
  · refine .inr ⟨w.goes i H hlt q, Pv (i + 1), fun H' p' => ⟨n - (i + 1), by omega, rfl, hlt, p'⟩, fun x H' y => hs i x H H' hlt p (w.yields i H x H' hlt q y)⟩
  · have e : i = n := by omega
    subst e
    exact .inl ⟨w.stops H q, hd H p⟩
theorem dc_at {Q : VK} {σ : L2.St} {H : Hp} {vs : List Nat} (h : Rdg X.K (rV X.K) W (sDc si g t sk sv vs) σ H Q) :
    tDc (RdI X.K W si) (fun v σ H Q => ∃ φ l m x, RH X.K H φ m ∧ RL X.K H φ l σ ∧ RV X.K H φ x v ∧ ∃ l' m', g x l m = some (l', m') ∧ ∀ φ' σ' H', wipe σ' vs = wipe σ vs → Ext X.K φ H φ' H' → RH X.K H' φ' m' → RL X.K H' φ' l' σ' → Q σ' H')
      (Rdg X.K rB W0 t) (Rdg X.K (rV X.K) W0 sk) (Rdg X.K (rV X.K) W0 sv) vs σ H Q := by
  obtain ⟨φ, l, m, h1, h2, h3⟩ := h
  refine ⟨φ, l, m, h1, h2, ?_⟩
  unfold sDc at h3
  cases hsi : si l m with
  | bad => rw [hsi] at h3; exact h3
  | ex c fs m' => rw [hsi] at h3; exact h3
  | ok it m1 =>
    rw [hsi] at h3
    have h3 : Post X.K (rV X.K) W φ l σ H (compD it g t sk sv m1.length (wipeP l vs) it.items (m1 ++ [.dck []])) Q := h3
    intro φ1 H1 J x1 a1 w D nD
    have hlen := a1.len
    refine dc_it (g := fun v σ H Q => ∃ φ l m x, RH X.K H φ m ∧ RL X.K H φ l σ ∧ RV X.K H φ x v ∧ ∃ l' m', g x l m = some (l', m') ∧ ∀ φ' σ' H', wipe σ' vs = wipe σ vs → Ext X.K φ H φ' H' → RH X.K H' φ' m' → RL X.K H' φ' l' σ' → Q σ' H') (tt := Rdg X.K rB W0 t) (tk := Rdg X.K (rV X.K) W0 sk) (tv := Rdg X.K (rV X.K) W0 sv) (vs := vs) (σ := σ) (H1 := H1) (D := D) (Qd := fun H => Q (.ref D) H) w (fun i H2 => ∃ φ2 m2, Ext X.K φ1 H1 φ2 H2 ∧ RH X.K H2 φ2 m2 ∧ φ2[m1.length]? = some D ∧ Post X.K (rV X.K) W φ2 l σ H2 (compD it g t sk sv m1.length (wipeP l vs) (it.items.drop i) m2) Q) ?_ ?_ ?_ ?_
    · have e2 : Ext X.K φ1 H1 (φ1 ++ [D]) (upd H1 D (.dK [])) := ⟨⟨[D], rfl⟩, fun a ws w => sqt_upd_new nD w, fun _ _ _ w => by rw [upd_ne (ne_of_none w nD)]; exact w⟩
      exact ⟨_, _, e2, a1.newO (x := .dck []) nD e2 ⟨[], upd_same, rfl⟩, by rw [← hlen]; simp, Post.ext (x1.trans e2) h3⟩
    · rintro i H2 hi ⟨φ2, m2, x2, a2, d2, p2⟩
      refine ⟨φ2, m2, x2, a2, ?_⟩
      cases hd : it.items.drop i with
      | nil =>
        rw [hd] at p2
        unfold compD at p2
        by_cases hk : it.ok m2
        · exact hk
        · rw [if_neg hk] at p2; exact p2.elim
      | cons x r =>
        rw [hd] at p2
        unfold compD at p2
        by_cases hk : it.ok m2
        · exact hk
        · rw [if_neg hk] at p2; exact p2.elim
    · rintro i v H2 H2' hi ⟨φ2, m2, x2, a2, d2, p2⟩ ⟨rfl, hv⟩
      have hi' : i < it.items.length := hi
      rw [List.drop_eq_getElem_cons hi'] at p2
      unfold compD at p2
      by_cases hk : it.ok m2
      · rw [if_pos hk] at p2
        obtain ⟨x0', hx1, hx2⟩ := hv φ2 m2 x2 a2 hk
        rw [List.getElem?_eq_getElem hi'] at hx1
        cases hx1
        cases hgx : g it.items[i] (wipeP l vs) m2 with
        | none => rw [hgx] at p2; exact p2.elim
        | some p =>
          obtain ⟨l3, m3⟩ := p
          rw [hgx] at p2
          dsimp only at p2
          refine ⟨φ2, wipeP l vs, m2, _, a2, (h2.ext (x1.trans x2)).wipe vs, hx2, l3, m3, hgx, fun φ3 σ3 H3 w3 x3 a3 b3 => ⟨by rw [w3, wipe_sub vs fun _ h => h], φ3, l3, m3, a3, b3, ?_⟩⟩
          have p3 := Post.ext x3 p2
          cases ht : t l3 m3 with
          | bad => rw [ht] at p3; exact p3
          | ex c fs m' => rw [ht] at p3; exact p3.elim
          | ok b m4 =>
            rw [ht] at p3
            dsimp only at p3
            intro φ4 H4 b' x4 a4 hb
            cases hb
            cases b with
            | false => exact iteF ⟨φ4, m4, (x2.trans x3).trans x4, a4, x4.get (x3.get d2), Post.ext x4 p3⟩
            | true =>
              rw [if_pos rfl] at p3
              refine iteT ⟨φ4, l3, m4, a4, b3.ext x4, ?_⟩
              have p4 := Post.ext x4 p3
              cases he : sk l3 m4 with
              | bad => rw [he] at p4; exact p4
              | ex c fs m' => rw [he] at p4; exact p4.elim
              | ok y m5 =>
                rw [he] at p4
                dsimp only at p4
                intro φ5 H5 u x5 a5 r5
                refine ⟨φ5, l3, m5, a5, (b3.ext x4).ext x5, ?_⟩
                have p5 := Post.ext x5 p4
                cases hw : sv l3 m5 with
                | bad => rw [hw] at p5; exact p5
                | ex c fs m' => rw [hw] at p5; exact p5.elim
                | ok z m6 =>
                  rw [hw] at p5
                  dsimp only at p5
                  intro φ6 H6 zv x6 a6 r6
                  split at p5
                  · rename_i k kvs hm6
                    have d6 : φ6[m1.length]? = some D := x6.get (x5.get (x4.get (x3.get d2)))
                    obtain ⟨us, e1, e2⟩ := a6.obj _ D _ d6 hm6
                    by_cases hz : kvs.length < 16777216
                    · rw [if_pos hz] at p5
                      obtain ⟨f1, f2⟩ := a6.setM d6 hm6 rfl e1 (fun _ z => by cases z) (fun _ _ z => by cases z) rfl (o2 := .dck (putD kvs k z)) (u2 := .dK (putK us (encK k) zv)) fun e => ⟨_, upd_same, rks_put encK_inj (RV.ext e r6) (RKs.ext e e2)⟩
                      have eu : u = V.int k := r5
                      exact ⟨us, encK k, eu, e1, by rw [rks_len e2, sl_eq]; exact hz, φ6, _, ((((x2.trans x3).trans x4).trans x5).trans x6).trans f1, f2, f1.get d6, Post.ext (x6.trans f1) p5⟩
                    · rw [if_neg hz] at p5; exact p5.elim
                  · exact p5.elim
      · rw [if_neg hk] at p2; exact p2.elim
    · rintro H2 ⟨φ2, m2, x2, a2, d2, p2⟩
      rw [List.drop_of_length_le (Nat.le_refl _)] at p2
      unfold compD at p2
      by_cases hk : it.ok m2
      · rw [if_pos hk] at p2
        exact p2 φ2 H2 (.ref D) Ext.refl a2 ⟨D, d2, rfl⟩
      · rw [if_neg hk] at p2; exact p2.elim
theorem q_dc (hc : X.calm = true) (hN : X.N.Nodup) (hi : QI X W tg iter si) (ok : BlkOk X.N X.env.scope scope own)
    (hg : ∀ (s : Shared) (H : Hp) (C : Addr) (cl : List (Str × Addr)) (fp : List Addr), QN (X.blk s H scope (compEnvC scope cl C X.env) fp) tg g (own.map (·.2))) (ht : ∀ (s : Shared) (H : Hp) (C : Addr) (cl : List (Str × Addr)) (fp : List Addr), QTs (X.blk s H scope (compEnvC scope cl C X.env) fp) W0 ifs t)
    (hk : ∀ (s : Shared) (H : Hp) (C : Addr) (cl : List (Str × Addr)) (fp : List Addr), QE (X.blk s H scope (compEnvC scope cl C X.env) fp) W0 kx sk)
    (he : ∀ (s : Shared) (H : Hp) (C : Addr) (cl : List (Str × Addr)) (fp : List Addr), QE (X.blk s H scope (compEnvC scope cl C X.env) fp) W0 vx sv) (hs : ∀ x, foldedSetIterable iter X.env x = pure x := by intro _; rfl) :
    QE X W (.DictComp kx vx [⟨tg, iter, ifs, 0⟩] scope pos) (sDc si g t sk sv (own.map (·.2))) :=
  ⟨pe_imp (pe_dc hc hN hi.pi ok (fun s H C cl fp => (hg s H C cl fp).pg) (fun s H C cl fp => (ht s H C cl fp).pt) (fun s H C cl fp => (hk s H C cl fp).pe) (fun s H C cl fp => (he s H C cl fp).pe) hs) fun σ H Q h => dc_at h⟩
/-- name = {..}, the name a local -/
theorem ps_setDc {i : Nat} {y : Str} {py spos : Pos} {wi : TI} {g : TG} {tt : TT} {tk tv : TE} (hc : X.calm = true) (hN : X.N.Nodup) (hy : X.N[i]? = some y) (hyl : X.env.scope.names.lookup y = some .local)
    (hsw : swapsWith (.DictComp kx vx [⟨tg, iter, ifs, 0⟩] scope pos) (some (.Name y py)) spos.line X.env = pure true) (hi : PI X tg iter wi) (ok : BlkOk X.N X.env.scope scope own)
    (hg : ∀ (s : Shared) (H : Hp) (C : Addr) (cl : List (Str × Addr)) (fp : List Addr), PG (X.blk s H scope (compEnvC scope cl C X.env) fp) tg g) (ht : ∀ (s : Shared) (H : Hp) (C : Addr) (cl : List (Str × Addr)) (fp : List Addr), PTs (X.blk s H scope (compEnvC scope cl C X.env) fp) ifs tt)
    (hk : ∀ (s : Shared) (H : Hp) (C : Addr) (cl : List (Str × Addr)) (fp : List Addr), PE (X.blk s H scope (compEnvC scope cl C X.env) fp) kx tk)
    (he : ∀ (s : Shared) (H : Hp) (C : Addr) (cl : List (Str × Addr)) (fp : List Addr), PE (X.blk s H scope (compEnvC scope cl C X.env) fp) vx tv) (hs : ∀ x, foldedSetIterable iter X.env x = pure x := by intro _; rfl) :
    PS X (.Assign [.Name y py] (.DictComp kx vx [⟨tg, iter, ifs, 0⟩] scope pos) spos) (tAsg (tDc wi g tt tk tv (own.map (·.2))) (gName i)) := by
  refine ⟨fun pins s σ H D I h => ?_⟩
  rw [exec_Assign_Name_used _ _ _ _ hsw]
  refine wpAny_bind (wpAny_standAt (wpAny_bind ?_))
  show wpAny _ X.A (do let _ ← comprehension (.DictComp kx vx [⟨tg, iter, ifs, 0⟩] scope pos) scope X.env (firstIterPos [⟨tg, iter, ifs, 0⟩] pos) newDict false (eval iter X.env) (some (assign (.Name y py) X.env))) _ _ s
  have h : tDc wi g tt tk tv (own.map (·.2)) σ H (fun x H1 => gName i x σ H1 D.nx) := h
  refine wpAny_bind (thn (dc_core (Qf := fun _ s' => SP X pins D .next s') hc hN I hi ok hg ht hk he hs h fun L C s' m H' I' q hn f => ?_) fun _ s' hq => wpAny_pure (wpAny_pure hq))
  show wpAny _ _ (assign (.Name y py) X.env (.ref L)) _ _ _
  refine wpAny_assign_Name (store_ok2 (v := V.ref L) I' hN hy (.inl hyl) rfl (fun s2 I2 ⟨a, sb, ha⟩ => ?_) (.inr hyl))
  obtain ⟨f0, f1, f2, f3, f4, f5⟩ := f
  have haC : C ≠ a := by
    rcases ha with z | z
    · rw [z]; exact f1
    · exact fun e => f4 y a z e.symm
  refine ⟨m, hn.sameBut sb haC, fun h3 sb3 => ?_⟩
  exact ⟨_, H', I2.turned (t' := s2.toks) (fun b o hb e => (sb3.2 b hb).trans e) f0 f1 f3 f4 f5, q⟩
theorem x_setDc (i : Nat) {y : Str} {py spos : Pos} (hc : X.calm = true) (hN : X.N.Nodup) (hy : X.N[i]? = some y) (hyl : X.env.scope.names.lookup y = some .local)
    (hsw : swapsWith (.DictComp kx vx [⟨tg, iter, ifs, 0⟩] scope pos) (some (.Name y py)) spos.line X.env = pure true) (hi : QI X W tg iter si) (ok : BlkOk X.N X.env.scope scope own)
    (hg : ∀ (s : Shared) (H : Hp) (C : Addr) (cl : List (Str × Addr)) (fp : List Addr), QN (X.blk s H scope (compEnvC scope cl C X.env) fp) tg g (own.map (·.2))) (ht : ∀ (s : Shared) (H : Hp) (C : Addr) (cl : List (Str × Addr)) (fp : List Addr), QTs (X.blk s H scope (compEnvC scope cl C X.env) fp) W0 ifs t)
    (hk : ∀ (s : Shared) (H : Hp) (C : Addr) (cl : List (Str × Addr)) (fp : List Addr), QE (X.blk s H scope (compEnvC scope cl C X.env) fp) W0 kx sk)
    (he : ∀ (s : Shared) (H : Hp) (C : Addr) (cl : List (Str × Addr)) (fp : List Addr), QE (X.blk s H scope (compEnvC scope cl C X.env) fp) W0 vx sv) (hs : ∀ x, foldedSetIterable iter X.env x = pure x := by intro _; rfl) :
    QS X W (.Assign [.Name y py] (.DictComp kx vx [⟨tg, iter, ifs, 0⟩] scope pos) spos) (xSet i (sDc si g t sk sv (own.map (·.2)))) :=
  ⟨ps_imp (ps_setDc hc hN hy hyl hsw hi.pi ok (fun s H C cl fp => (hg s H C cl fp).pg) (fun s H C cl fp => (ht s H C cl fp).pt) (fun s H C cl fp => (hk s H C cl fp).pe) (fun s H C cl fp => (he s H C cl fp).pe) hs) fun D σ H ⟨φ, l, m, h1, h2, h3⟩ =>
    dc_at ⟨φ, l, m, h1, h2, (PostS.then (rel := rV X.K) h2 h3).mono fun v H1 ⟨φ1, x, m1, e1, a1, b1, c1, d1⟩ => d1 φ1 _ H1 Ext.refl a1 (b1.set i c1)⟩⟩
end
end SM

set_option Elab.async false
set_option linter.all false
set_option maxRecDepth 100000
set_option maxHeartbeats 2000000
/-! SM27: list(range(a, b)), xs[::k], //=, *=. -/
namespace L2
open PySem PySem.Spec PyProof.Rows
/-- what a slice with a step picks, by its indices -/
def pickIx (st : Int) (n : Nat) : List Nat := PySem.sliceRange (PySem.sliceBounds none none (some st) n).1 (PySem.sliceBounds none none (some st) n).2.1 (PySem.sliceBounds none none (some st) n).2.2
def pickS {α : Type} (st : Int) (xs : List α) : List α := (pickIx st xs.length).filterMap (xs[·]?)
theorem vals_pick {xs : List V} {its : List Value} (r : Vals xs its) : ∀ is : List Nat, Vals (is.filterMap (xs[·]?)) (is.filterMap (its[·]?))
  | [] => .nil
  | i :: is => by
    have ih := vals_pick r is
    rw [List.filterMap_cons, List.filterMap_cons]
    cases hx : xs[i]? with
    | none =>
      have : its[i]? = none := by rw [List.getElem?_eq_none_iff] at hx ⊢; rw [← r.length]; exact hx
      rw [this]
      exact ih
    | some v =>
      obtain ⟨w, e, q⟩ := r.get hx
      rw [e]
      exact .cons q ih
def tStepL (K : PySem.W.Frag) (st : Int) (te : TE) : TE := fun σ H Q => te σ H fun x H1 => ∃ a xs, x = .ref a ∧ SqL K H1 a xs ∧ ∀ p, H1 p = none → Q (.ref p) (upd H1 p (.lst (pickS st xs)))
theorem pe_stepL {X : Cx} {e : Expr} {te : TE} {st : Int} {k : Nat} {p1 p3 pos : Pos} (h0 : st ≠ 0) (he : PE X e te) : PE X (.Subscript e (.Slice none none (some (.Constant (.int st) k p1)) p3) pos) (tStepL X.K st te) := by
  refine ⟨fun pins s σ H Q I h => ?_⟩
  refine Subscript_ (thn (he.run pins s σ H _ I h) fun v s1 ⟨x, H1, I1, r1, q1⟩ => ?_)
  obtain ⟨a, xs, ex, hx, q⟩ := q1
  subst ex
  cases r1
  have hst : PO X (some (.Constant (.int st) k p1)) (tPart (tC (.int st))) := po_some pe_int
  refine wpAny_Slice (thn (po_none.run pins s1 σ H1 (fun o H2 => o = none ∧ H2 = H1) I1 ⟨rfl, rfl⟩) fun vl s2 ⟨l, H2, I2, pl, el, e2⟩ => ?_)
  subst el e2
  refine thn (po_none.run pins s2 σ H2 (fun o H3 => o = none ∧ H3 = H2) I2 ⟨rfl, rfl⟩) fun vu s3 ⟨u, H3, I3, pu, eu, e3⟩ => ?_
  subst eu e3
  refine thn (hst.run pins s3 σ H3 (fun o H4 => o = some st ∧ H4 = H3) I3 ⟨st, rfl, rfl, rfl⟩) fun vs s4 ⟨o, H4, I4, ps, eo, e4⟩ => ?_
  subst eo e4
  have I5 : Inv X pins σ H4 { s4 with heap := s4.heap.push { cls := .type "slice", data := .fields #[vl, vu, vs] } } := I4.kept (t' := s4.toks) fun b ob q => Heap.get?_push_of_some _ q
  obtain ⟨its, r, ht, hz⟩ := I5.list hx
  have hlen := r.length
  show wpAny (model X.prog X.w) X.A (subscriptTail e (.Slice none none (some (.Constant (.int st) k p1)) p3) (.ref a) (.ref s4.heap.objs.size)) (EP X pins σ Q) X.xe { s4 with heap := s4.heap.push { cls := .type "slice", data := .fields #[vl, vu, vs] } }
  refine tail_any (ops := [.ref a, .ref s4.heap.objs.size]) ht.isList.typeIs (PySem.slot_list_getitem.lookup) ?_ (by with_unfolding_all rfl)
  refine wpAny_getItem_list_slice ht.isList (Heap.IsSliceOf.new _ vl vu vs) pl pu ps (by intro z; cases z; exact h0 rfl) ?_ (by rw [List.size_toArray]; omega)
  have hsz := PySem.slicePick_size_le its.toArray none none (some st)
  have ep : (PySem.slicePick its.toArray none none (some st)).toList = (pickIx st xs.length).filterMap (its[·]?) := by
    unfold PySem.slicePick pickIx
    rw [List.size_toArray, ← hlen]
    simp
  have rp : Vals (pickS st xs) (PySem.slicePick its.toArray none none (some st)).toList := by
    rw [ep]
    exact vals_pick r _
  refine ⟨.ref _, _, I5.laid (t' := s4.toks) (o := .lst (pickS st xs)) (fun b ob q => Heap.get?_push_of_some _ q) (Nat.le_refl _) ?_, rfl, q _ (I5.hok.fresh (Nat.le_refl _))⟩
  refine ⟨?_, (PySem.slicePick its.toArray none none (some st)).toList, 0, rp, ?_⟩
  · have l1 := rp.length
    have l2 : (PySem.slicePick its.toArray none none (some st)).toList.length = (PySem.slicePick its.toArray none none (some st)).size := Array.length_toList
    have l3 : its.toArray.size = its.length := List.size_toArray
    omega
  · rw [show (PySem.slicePick its.toArray none none (some st)).toList.toArray = PySem.slicePick its.toArray none none (some st) by simp]
    exact Heap.get?_push_size _ rfl
end L2
namespace SM
open PySem PySem.Spec PyProof.Rows L2
def stepv (st : Int) : PV → MH → OR
  | .ref n, m => (seq? m n).map fun xs => (.ref m.length, m ++ [.lst (pickS st xs)])
  | _, _ => none
theorem rvs_pick {K : PySem.W.Frag} {H : Hp} {φ : List Addr} {xs : List PV} {vs : List V} (h : RVs K H φ xs vs) : ∀ is : List Nat, RVs K H φ (is.filterMap (xs[·]?)) (is.filterMap (vs[·]?))
  | [] => rfl
  | i :: is => by
    have ih := rvs_pick h is
    rw [List.filterMap_cons, List.filterMap_cons]
    cases hx : xs[i]? with
    | none =>
      have : vs[i]? = none := by rw [List.getElem?_eq_none_iff] at hx ⊢; rw [h.length]; exact hx
      rw [this]
      exact ih
    | some v =>
      obtain ⟨w, e, q⟩ := h.get hx
      rw [e]
      exact ⟨w, _, rfl, q, ih⟩
def rngv : PV → PV → MH → OR
  | .int a, .int b, m => if 0 ≤ a ∧ a ≤ 16777216 ∧ 0 ≤ b ∧ b ≤ 16777216 then some (.ref m.length, m ++ [.lst (rng a b)]) else none
  | _, _, _ => none
section
variable {X : Cx} {W : XM} {e a b : Expr} {se sa sb : SE} {k : Nat} {st : Int} {p1 p2 p3 pos : Pos}
theorem q_stepL (h0 : st ≠ 0) (he : QE X W e se) : QE X W (.Subscript e (.Slice none none (some (.Constant (.int st) k p1)) p3) pos) (sUn (stepv st) se) :=
  ⟨pe_imp (pe_stepL h0 he.pe) fun σ H Q h => (one h).mono fun v H1 ⟨φ, m, x, _, c1, c2, c3⟩ => by
    obtain ⟨y, m2, e1, q⟩ := PostO.of c3
    unfold stepv at e1
    split at e1
    · rename_i n
      cases hs : seq? m n with
      | none => rw [hs] at e1; cases e1
      | some xs =>
        rw [hs] at e1
        cases e1
        obtain ⟨p, vs, rfl, r1, r2⟩ := c1.seq c2 hs
        refine ⟨p, vs, rfl, r1, fun q' hq' => ?_⟩
        have rp : RVs X.K H1 φ (pickS st xs) (pickS st vs) := by unfold pickS; rw [r2.length]; exact rvs_pick r2 _
        obtain ⟨e2, a2, r3⟩ := c1.newL hq' rp
        exact q _ _ _ e2 a2 r3
    · cases e1⟩
theorem rgV_rng {K : PySem.W.Frag} {H : Hp} {φ : List Addr} (a b : Int) : RVs K H φ (rng a b) (rgV a b) := by
  have e : rgV a b = (List.range (b - a).toNat).map fun i => V.int (a + (i : Nat)) := by
    unfold rgV
    rfl
  rw [e]
  unfold rng
  generalize List.range (b - a).toNat = is
  induction is with
  | nil => rfl
  | cons i is ih => exact ⟨_, _, rfl, rfl, ih⟩
theorem q_listRg (hc : X.calm = true) (hl : Gl X "list") (hml : X.mg "list" = none) (hr : Gl X "range") (hmr : X.mg "range" = none) (ha : QE X W a sa) (hb : QE X W b sb)
    (n1 : starEach [.Call (.Name "range" p1) [a, b] [] p2] X.env = (false, eval (.Call (.Name "range" p1) [a, b] [] p2) X.env) :: starEach [] X.env := by rfl)
    (na : starEach [a, b] X.env = (false, eval a X.env) :: starEach [b] X.env := by rfl) (nb : starEach [b] X.env = (false, eval b X.env) :: starEach [] X.env := by rfl) (hp : (backTo p2 (starEach [b] X.env)).any (·.1) = false := by rfl) :
    QE X W (.Call (.Name "list" p3) [.Call (.Name "range" p1) [a, b] [] p2] [] pos) (sOp rngv sa sb) :=
  ⟨pe_imp (pe_listRg hc hl hml (prg_2 hr hmr ha.pe hb.pe na nb hp) n1) fun σ H Q h => (two h).mono fun v H1 h1 => Rdg.mono h1 fun w H2 ⟨φ, m, x, y, _, c1, c2, c3, c4⟩ => by
    obtain ⟨z, m2, e1, q⟩ := PostO.of c4
    unfold rngv at e1
    split at e1
    · rename_i i j
      split at e1
      · rename_i hz
        cases e1
        refine ⟨i, j, c2, c3, RgOk.of_le (by omega) (by omega) (by omega) (by omega), fun q' hq' => ?_⟩
        obtain ⟨e2, a2, r3⟩ := c1.newL hq' (rgV_rng i j)
        exact q _ _ _ e2 a2 r3
      · cases e1
    · cases e1⟩
end
def ifdivv : PV → PV → MH → OR
  | .int a, .int b, m => if 0 < b ∧ b < 1073741824 then some (.int (a / b), m) else none
  | _, _, _ => none
def imulv : PV → PV → MH → OR
  | .int a, .int b, m => if (-(2 ^ 64) < a ∧ a < 2 ^ 64) ∨ (-(2 ^ 64) < b ∧ b < 2 ^ 64) then some (.int (a * b), m) else none
  | _, _, _ => none
section
variable {X : Cx}
theorem ia_fdiv : PIpQ X .FloorDiv ifdivv := by
  intro pins s σ H v w vv ww Q I rv rw' ⟨φ, m, x, y, h1, h2, h3, h4⟩
  unfold ifdivv at h4
  split at h4
  · cases h2; cases h3
    split at h4
    · rename_i hz
      exact iop_fdiv pins s σ H _ _ vv ww Q I rv rw' ⟨_, _, rfl, rfl, hz, h4.same h1 rfl⟩
    · exact h4.not.elim
  · exact h4.not.elim
theorem ia_mul : PIpQ X .Mult imulv := by
  intro pins s σ H v w vv ww Q I rv rw' ⟨φ, m, x, y, h1, h2, h3, h4⟩
  unfold imulv at h4
  split at h4
  · cases h2; cases h3
    split at h4
    · rename_i hz
      exact iop_mul pins s σ H _ _ vv ww Q I rv rw' ⟨_, _, rfl, rfl, hz, h4.same h1 rfl⟩
    · exact h4.not.elim
  · exact h4.not.elim
end
end SM

set_option Elab.async false
set_option linter.all false
set_option maxRecDepth 100000
set_option maxHeartbeats 4000000
namespace Lw
open PySem PySem.Spec PyProof.Rows L2 SM
def clsBody : Stmt → List Stmt
  | .ClassDef _ _ _ b _ _ _ _ _ _ _ => b
  | _ => []
def topS (i : Nat) : Stmt := PySem.Challenge.pw_homingtrue_k45_integers_and_records.main.body.getD i (.Pass ⟨0, 0, 0, 0⟩)
/-! ### _law_cell -/
abbrev s_law_cell : Stmt := topS 11
theorem sc_law_cell : FnScope ["script", "k"] ["script", "k"] (defScope s_law_cell) := ⟨rfl, rfl, rfl, by decide +kernel, rfl, by decide +kernel, by decide +kernel⟩
noncomputable def b_law_cell : SS := (xSeq (xIf (tBool (sOp ltv (sVar 1) (sCall lenv (aCons (sVar 0) aNil)))) (xRet (sOp ixv (sVar 0) (sVar 1))) xNil) (xRet (sC (.int 0))))
noncomputable def f_law_cell : FS := fnS 2 2 b_law_cell
/-! ### _law_digits -/
abbrev s_law_digits : Stmt := topS 12
theorem sc_law_digits : FnScope ["cell", "k", "most", "digits", "turn", "seed"] ["cell", "k", "most"] (defScope s_law_digits) := ⟨rfl, rfl, rfl, by decide +kernel, rfl, by decide +kernel, by decide +kernel⟩
noncomputable def law_digits_l1 : SS := (xIf (tAndS (tBool (sOp gtv (sVar 0) (sC (.int 0)))) (tBool (sOp ltv (sCall lenv (aCons (sVar 3) aNil)) (sVar 2)))) (xSeq (xExpr (sMeth isLst appendv (sVar 3) (aCons (sOp modv (sCall intv (aCons (sVar 0) aNil)) (sC (.int 1000))) aNil))) (xSet 0 (sOp fdivv (sVar 0) (sC (.int 1000))))) xNil)
noncomputable def law_digits_l2 : SS := (xSeq (xSet 5 (sOp modv (sCall intv (aCons (sOp addv (sOp addv (sOp mulvS (sVar 5) (sC (.int 16807))) (sOp mulvS (sC (.int 7)) (sVar 4))) (sC (.int 1))) aNil)) (sC (.int 2147483647)))) (xExpr (sMeth isLst appendv (sVar 3) (aCons (sOp modv (sCall intv (aCons (sOp fdivv (sVar 5) (sC (.int 997))) aNil)) (sC (.int 1000))) aNil))))
noncomputable def b_law_digits : SS := (xSeq (xSet 3 (sLst aNil)) (xSeq (xIf (tBool (sOp ltv (sVar 0) (sC (.int 0)))) (xSet 0 (sOp subv (sUn negv (sC (.int 1))) (sVar 0))) xNil) (xSeq (xIf (tBool (sOp gev (sVar 0) (sOp powv (sC (.int 10)) (sC (.int 18))))) (xFor (iRng1S (sC (.int 60))) (gNm 4) (law_digits_l1)) (xSeq (xSet 5 (sOp modv (sCall intv (aCons (sOp addv (sOp addv (sOp mulvS (sVar 0) (sC (.int 48271))) (sOp mulvS (sVar 1) (sC (.int 69621)))) (sC (.int 11))) aNil)) (sC (.int 2147483647)))) (xFor (iRng1S (sVar 2)) (gNm 4) (law_digits_l2)))) (xRet (sVar 3)))))
noncomputable def f_law_digits : FS := fnS 3 6 b_law_digits
/-! ### _law_bodies -/
abbrev s_law_bodies : Stmt := topS 19
theorem sc_law_bodies : FnScope ["script", "bodies", "k", "cell", "body", "digit"] ["script"] (defScope s_law_bodies) := ⟨rfl, rfl, rfl, by decide +kernel, rfl, by decide +kernel, by decide +kernel⟩
noncomputable def law_bodies_l1 : SS := (xSeq (xSet 3 (sCallU 2 f_law_cell (aCons (sVar 0) (aCons (sVar 2) aNil)))) (xSeq (xSet 4 (sLc (iSeq (sCallU 3 f_law_digits (aCons (sVar 3) (aCons (sVar 2) (aCons (sOp modv (sCall intv (aCons (sVar 3) aNil)) (sC (.int 15))) aNil))))) (gNm 5) tYesS (sOp modv (sCall intv (aCons (sVar 5) aNil)) (sC (.int 256))) [5])) (xExpr (sMeth isLst appendv (sVar 1) (aCons (sOp mulvS (sVar 4) (sOp ixv (sLst (aCons (sC (.int 1)) (aCons (sC (.int 1)) (aCons (sC (.int 12)) aNil)))) (sOp modv (sCall intv (aCons (sOp fdivv (sVar 3) (sC (.int 15))) aNil)) (sC (.int 3))))) aNil)))))
noncomputable def b_law_bodies : SS := (xSeq (xSet 1 (sLst aNil)) (xSeq (xFor (iRng2S (sC (.int 10)) (sOp addv (sC (.int 11)) (sOp modv (sCall intv (aCons (sCallU 2 f_law_cell (aCons (sVar 0) (aCons (sC (.int 9)) aNil))) aNil)) (sC (.int 4))))) (gNm 2) (law_bodies_l1)) (xRet (sVar 1))))
noncomputable def f_law_bodies : FS := fnS 1 6 b_law_bodies
/-! ### _law_check -/
abbrev s_law_check : Stmt := topS 15
theorem sc_law_check : FnScope ["data", "total", "byte"] ["data"] (defScope s_law_check) := ⟨rfl, rfl, rfl, by decide +kernel, rfl, by decide +kernel, by decide +kernel⟩
noncomputable def law_check_l1 : SS := (xSet 1 (sOp modv (sCall intv (aCons (sOp addv (sOp mulvS (sC (.int 139)) (sVar 1)) (sVar 2)) aNil)) (sC (.int 65521))))
noncomputable def b_law_check : SS := (xSeq (xSet 1 (sC (.int 9))) (xSeq (xFor (iSeq (sVar 0)) (gNm 2) (law_check_l1)) (xRet (sVar 1))))
noncomputable def f_law_check : FS := fnS 1 3 b_law_check
/-! ### _law_integer -/
abbrev s_law_integer : Stmt := topS 17
theorem sc_law_integer : FnScope ["script", "k", "n", "digit"] ["script", "k"] (defScope s_law_integer) := ⟨rfl, rfl, rfl, by decide +kernel, rfl, by decide +kernel, by decide +kernel⟩
noncomputable def law_integer_l1 : SS := (xSet 2 (sOp addv (sOp mulvS (sVar 2) (sC (.int 1000))) (sCall intv (aCons (sVar 3) aNil))))
noncomputable def b_law_integer : SS := (xSeq (xSet 2 (sC (.int 0))) (xSeq (xFor (iSeq (sCallU 3 f_law_digits (aCons (sCallU 2 f_law_cell (aCons (sVar 0) (aCons (sVar 1) aNil))) (aCons (sVar 1) (aCons (sOp modv (sCall intv (aCons (sCallU 2 f_law_cell (aCons (sVar 0) (aCons (sVar 1) aNil))) aNil)) (sC (.int 9))) aNil))))) (gNm 3) (law_integer_l1)) (xRet (sOp subv (sOp addv (sVar 2) (sOp ixv (sLst (aCons (sC (.int 0)) (aCons (sC (.int 128)) (aCons (sC (.int 16384)) (aCons (sC (.int 2097152)) (aCons (sC (.int 268435456)) aNil)))))) (sOp modv (sCall intv (aCons (sOp fdivv (sCallU 2 f_law_cell (aCons (sVar 0) (aCons (sVar 1) aNil))) (sC (.int 9))) aNil)) (sC (.int 5))))) (sCall intv (aCons (sOp gtv (sVar 2) (sC (.int 0))) aNil))))))
noncomputable def f_law_integer : FS := fnS 2 4 b_law_integer
/-! ### _law_number -/
abbrev s_law_number : Stmt := topS 14
theorem sc_law_number : FnScope ["n", "data", "turn"] ["n"] (defScope s_law_number) := ⟨rfl, rfl, rfl, by decide +kernel, rfl, by decide +kernel, by decide +kernel⟩
noncomputable def law_number_l1 : SS := (xIf (tBool (sOp gev (sVar 0) (sC (.int 128)))) (xSeq (xExpr (sMeth isLst appendv (sVar 1) (aCons (sOp addv (sOp modv (sCall intv (aCons (sVar 0) aNil)) (sC (.int 128))) (sC (.int 128))) aNil))) (xSet 0 (sOp fdivv (sVar 0) (sC (.int 128))))) xNil)
noncomputable def b_law_number : SS := (xSeq (xSet 1 (sLst aNil)) (xSeq (xFor (iRng1S (sC (.int 20))) (gNm 2) (law_number_l1)) (xSeq (xExpr (sMeth isLst appendv (sVar 1) (aCons (sVar 0) aNil))) (xRet (sVar 1)))))
noncomputable def f_law_number : FS := fnS 1 3 b_law_number
/-! ### number_bytes -/
abbrev s_number_bytes : Stmt := topS 5
theorem sc_number_bytes : FnScope ["n", "digits"] ["n"] (defScope s_number_bytes) := ⟨rfl, rfl, rfl, by decide +kernel, rfl, by decide +kernel, by decide +kernel⟩
noncomputable def number_bytes_l1 : SS := (xSeq (xExpr (sMeth isLst appendv (sVar 1) (aCons (sOp addv (sOp modv (sVar 0) (sC (.int 128))) (sC (.int 128))) aNil))) (xAug 0 ifdivv (sC (.int 128))))
noncomputable def b_number_bytes : SS := (xSeq (xSet 1 (sLst aNil)) (xSeq (xWhile (tBool (sOp gev (sVar 0) (sC (.int 128)))) (number_bytes_l1)) (xRet (sOp addv (sVar 1) (sLst (aCons (sVar 0) aNil))))))
noncomputable def f_number_bytes : FS := fnS 1 2 b_number_bytes
/-! ### read_number -/
abbrev s_read_number : Stmt := topS 6
theorem sc_read_number : FnScope ["data", "at", "number", "weight", "end", "digit"] ["data", "at"] (defScope s_read_number) := ⟨rfl, rfl, rfl, by decide +kernel, rfl, by decide +kernel, by decide +kernel⟩
noncomputable def read_number_l1 : SS := (xSeq (xSet 5 (sOp ixv (sVar 0) (sVar 4))) (xSeq (xIf (tBool (sOp ltv (sVar 5) (sC (.int 128)))) (xSeq (xIf (tAndS (tBool (sOp eqv (sVar 5) (sC (.int 0)))) (tBool (sOp gtv (sVar 4) (sVar 1)))) (xRet (sC .non)) xNil) (xRet (sTup (aCons (sOp addv (sVar 2) (sOp mulvS (sVar 5) (sVar 3))) (aCons (sOp addv (sVar 4) (sC (.int 1))) aNil))))) xNil) (xSeq (xAug 2 iaddv (sOp mulvS (sOp subv (sVar 5) (sC (.int 128))) (sVar 3))) (xAug 3 imulv (sC (.int 128))))))
noncomputable def b_read_number : SS := (xSeq (xSet 2 (sC (.int 0))) (xSeq (xSet 3 (sC (.int 1))) (xSeq (xFor (iRng2S (sVar 1) (sCall lenv (aCons (sVar 0) aNil))) (gNm 4) (read_number_l1)) (xRet (sC .non)))))
noncomputable def f_read_number : FS := fnS 2 6 b_read_number
/-! ### _law_is_number -/
abbrev s_law_is_number : Stmt := topS 18
theorem sc_law_is_number : FnScope ["n", "data"] ["n"] (defScope s_law_is_number) := ⟨rfl, rfl, rfl, by decide +kernel, rfl, by decide +kernel, by decide +kernel⟩
noncomputable def b_law_is_number : SS := (xSeq (xSet 1 (sCallU 1 f_law_number (aCons (sVar 0) aNil))) (xSeq (xIf (tOrS (tBool (sOp nev (sCall listv (aCons (sCallU 1 f_number_bytes (aCons (sVar 0) aNil)) aNil)) (sVar 1))) (tBool (sOp nev (sCallU 2 f_read_number (aCons (sOp addv (sOp addv (sLst (aCons (sC (.int 9)) (aCons (sC (.int 9)) aNil))) (sVar 1)) (sLst (aCons (sC (.int 7)) aNil))) (aCons (sC (.int 2)) aNil))) (sTup (aCons (sVar 0) (aCons (sOp addv (sC (.int 2)) (sCall lenv (aCons (sVar 1) aNil))) aNil)))))) (xRet (sC (.bl false))) xNil) (xRet (sAndV (sOp isNv (sCallU 2 f_read_number (aCons (sSl (sVar 1) oNone (oSome (sUn negv (sC (.int 1))))) (aCons (sC (.int 0)) aNil))) (sC .non)) (sOp isNv (sCallU 2 f_read_number (aCons (sOp addv (sSl (sVar 1) oNone (oSome (sUn negv (sC (.int 1))))) (sLst (aCons (sOp addv (sOp ixv (sVar 1) (sUn negv (sC (.int 1)))) (sC (.int 128))) (aCons (sC (.int 0)) aNil)))) (aCons (sC (.int 0)) aNil))) (sC .non))))))
noncomputable def f_law_is_number : FS := fnS 1 2 b_law_is_number
/-! ### _law_record -/
abbrev s_law_record : Stmt := topS 16
theorem sc_law_record : FnScope ["body"] ["body"] (defScope s_law_record) := ⟨rfl, rfl, rfl, by decide +kernel, rfl, by decide +kernel, by decide +kernel⟩
noncomputable def b_law_record : SS := (xRet (sOp addv (sOp addv (sCallU 1 f_law_number (aCons (sCall lenv (aCons (sVar 0) aNil)) aNil)) (sVar 0)) (sCallU 1 f_law_number (aCons (sCallU 1 f_law_check (aCons (sVar 0) aNil)) aNil))))
noncomputable def f_law_record : FS := fnS 1 1 b_law_record
/-! ### sum_of_body -/
abbrev s_sum_of_body : Stmt := topS 7
theorem sc_sum_of_body : FnScope ["body", "total", "byte"] ["body"] (defScope s_sum_of_body) := ⟨rfl, rfl, rfl, by decide +kernel, rfl, by decide +kernel, by decide +kernel⟩
noncomputable def sum_of_body_l1 : SS := (xSet 1 (sOp modv (sOp addv (sOp mulvS (sC (.int 139)) (sVar 1)) (sVar 2)) (sC (.int 65521))))
noncomputable def b_sum_of_body : SS := (xSeq (xSet 1 (sC (.int 9))) (xSeq (xFor (iSeq (sVar 0)) (gNm 2) (sum_of_body_l1)) (xRet (sVar 1))))
noncomputable def f_sum_of_body : FS := fnS 1 3 b_sum_of_body
/-! ### read_record -/
abbrev s_read_record : Stmt := topS 9
theorem sc_read_record : FnScope ["data", "at", "length", "end", "total", "body"] ["data", "at"] (defScope s_read_record) := ⟨rfl, rfl, rfl, by decide +kernel, rfl, by decide +kernel, by decide +kernel⟩
noncomputable def b_read_record : SS := (xSeq (xSet 2 (sCallU 2 f_read_number (aCons (sVar 0) (aCons (sVar 1) aNil)))) (xSeq (xIf (tBool (sOp isNv (sVar 2) (sC .non))) (xRet (sC .non)) xNil) (xSeq (xSet 3 (sOp addv (sOp ixv (sVar 2) (sC (.int 1))) (sOp ixv (sVar 2) (sC (.int 0))))) (xSeq (xSet 4 (sCallU 2 f_read_number (aCons (sVar 0) (aCons (sVar 3) aNil)))) (xSeq (xIf (tBool (sOp isNv (sVar 4) (sC .non))) (xRet (sC .non)) xNil) (xSeq (xSet 5 (sCall listv (aCons (sSl (sVar 0) (oSome (sOp ixv (sVar 2) (sC (.int 1)))) (oSome (sVar 3))) aNil))) (xSeq (xIf (tBool (sOp nev (sOp ixv (sVar 4) (sC (.int 0))) (sCallU 1 f_sum_of_body (aCons (sVar 5) aNil)))) (xRet (sC .non)) xNil) (xRet (sTup (aCons (sVar 5) (aCons (sOp ixv (sVar 4) (sC (.int 1))) aNil)))))))))))
noncomputable def f_read_record : FS := fnS 2 6 b_read_record
/-! ### record_of -/
abbrev s_record_of : Stmt := topS 8
theorem sc_record_of : FnScope ["body"] ["body"] (defScope s_record_of) := ⟨rfl, rfl, rfl, by decide +kernel, rfl, by decide +kernel, by decide +kernel⟩
noncomputable def b_record_of : SS := (xRet (sOp addv (sOp addv (sCallU 1 f_number_bytes (aCons (sCall lenv (aCons (sVar 0) aNil)) aNil)) (sCall listv (aCons (sVar 0) aNil))) (sCallU 1 f_number_bytes (aCons (sCallU 1 f_sum_of_body (aCons (sVar 0) aNil)) aNil))))
noncomputable def f_record_of : FS := fnS 1 1 b_record_of
/-! ### law -/
abbrev s_law : Stmt := topS 20
theorem sc_law : FnScope ["script", "k", "bodies", "data", "body", "at", "told", "one", "cut", "size", "start", "changed"] ["script"] (defScope s_law) := ⟨rfl, rfl, rfl, by decide +kernel, rfl, by decide +kernel, by decide +kernel⟩
noncomputable def law_l1 : SS := (xIf (tNotS (tTru (sCallU 1 f_law_is_number (aCons (sCallU 2 f_law_integer (aCons (sVar 0) (aCons (sVar 1) aNil))) aNil)))) (xRet (sC (.bl false))) xNil)
noncomputable def law_l2 : SS := (xSeq (xIf (tBool (sOp nev (sCall listv (aCons (sCallU 1 f_record_of (aCons (sCall listv (aCons (sVar 4) aNil)) aNil)) aNil)) (sCallU 1 f_law_record (aCons (sVar 4) aNil)))) (xRet (sC (.bl false))) xNil) (xSet 3 (sOp addv (sVar 3) (sCallU 1 f_law_record (aCons (sVar 4) aNil)))))
noncomputable def law_l3 : SS := (xSeq (xSet 6 (sCallU 2 f_read_record (aCons (sCall listv (aCons (sVar 3) aNil)) (aCons (sVar 5) aNil)))) (xSeq (xIf (tOrS (tBool (sOp isNv (sVar 6) (sC .non))) (tOrS (tBool (sOp nev (sCall listv (aCons (sOp ixv (sVar 6) (sC (.int 0))) aNil)) (sVar 4))) (tBool (sOp nev (sOp ixv (sVar 6) (sC (.int 1))) (sOp addv (sVar 5) (sCall lenv (aCons (sCallU 1 f_law_record (aCons (sVar 4) aNil)) aNil))))))) (xRet (sC (.bl false))) xNil) (xSet 5 (sOp ixv (sVar 6) (sC (.int 1))))))
noncomputable def b_law : SS := (xSeq (xFor (iRng1S (sC (.int 6))) (gNm 1) (law_l1)) (xSeq (xSet 2 (sCallU 1 f_law_bodies (aCons (sVar 0) aNil))) (xSeq (xSet 3 (sLst aNil)) (xSeq (xFor (iSeq (sVar 2)) (gNm 4) (law_l2)) (xSeq (xSet 5 (sC (.int 0))) (xSeq (xFor (iSeq (sVar 2)) (gNm 4) (law_l3)) (xSeq (xSet 7 (sCallU 1 f_law_record (aCons (sOp ixv (sVar 2) (sC (.int 0))) aNil))) (xSeq (xSet 8 (sOp modv (sCall intv (aCons (sCallU 2 f_law_cell (aCons (sVar 0) (aCons (sC (.int 15)) aNil))) aNil)) (sCall lenv (aCons (sVar 7) aNil)))) (xSeq (xIf (tOrS (tBool (sOp notNv (sCallU 2 f_read_record (aCons (sCall listv (aCons (sVar 3) aNil)) (aCons (sVar 5) aNil))) (sC .non))) (tBool (sOp notNv (sCallU 2 f_read_record (aCons (sSl (sVar 7) oNone (oSome (sVar 8))) (aCons (sC (.int 0)) aNil))) (sC .non)))) (xRet (sC (.bl false))) xNil) (xSeq (xSet 9 (sCall lenv (aCons (sOp ixv (sVar 2) (sC (.int 0))) aNil))) (xSeq (xIf (tBool (sOp gtv (sVar 9) (sC (.int 0)))) (xSeq (xSet 10 (sCall lenv (aCons (sCallU 1 f_law_number (aCons (sVar 9) aNil)) aNil))) (xSeq (xSet 1 (sOp addv (sVar 10) (sOp modv (sCall intv (aCons (sCallU 2 f_law_cell (aCons (sVar 0) (aCons (sC (.int 16)) aNil))) aNil)) (sVar 9)))) (xSeq (xSet 11 (sCall listv (aCons (sVar 7) aNil))) (xSeq (xAsg (sOp modv (sCall intv (aCons (sOp addv (sOp addv (sOp ixv (sVar 11) (sVar 1)) (sC (.int 1))) (sOp modv (sCall intv (aCons (sCallU 2 f_law_cell (aCons (sVar 0) (aCons (sC (.int 17)) aNil))) aNil)) (sC (.int 255)))) aNil)) (sC (.int 256))) (gSubS (sVar 11) (sVar 1))) (xIf (tBool (sOp nev (sCallU 1 f_law_check (aCons (sSl (sVar 11) (oSome (sVar 10)) (oSome (sOp addv (sVar 10) (sVar 9)))) aNil)) (sCallU 1 f_law_check (aCons (sOp ixv (sVar 2) (sC (.int 0))) aNil)))) (xRet (sOp isNv (sCallU 2 f_read_record (aCons (sVar 11) (aCons (sC (.int 0)) aNil))) (sC .non))) xNil))))) xNil) (xRet (sC (.bl true))))))))))))))
noncomputable def f_law : FS := fnS 1 12 b_law
section
variable {P : Program} {w : World} {K : PySem.W.Frag} {mg : Str → Option Value} {base : Heap}
theorem ok_law_cell {f : Addr} {fd : FuncData} (F : Fun K "_law_cell" "_law_cell" s_law_cell f fd) (m_len : mg "len" = none) : FnOk P w K mg base CX0 1 f fd ["script", "k"] (SpQ K 2 f_law_cell) :=
  okQ F sc_law_cell b_law_cell fun cdv A outer s H E hr => by
    have nd := sc_law_cell.nd
    exact (x_cons (x_if (t_cmp o_lt (q_var 1) (q_callB c_len (by rfl) m_len PySem.boot_len (a_cons (q_var 0) a_nil)) (nomark _)) (x_one (x_ret (q_ix (q_var 0) (q_var 1) (fun _ _ => rfl)))) x_nil) (x_one (x_ret q_int)))
theorem ok_law_digits {f : Addr} {fd : FuncData} (F : Fun K "_law_digits" "_law_digits" s_law_digits f fd) (m_range : mg "range" = none) (m_len : mg "len" = none) (m_int : mg "int" = none) : FnOk P w K mg base CX0 1 f fd ["cell", "k", "most"] (SpQ K 3 f_law_digits) :=
  okQ F sc_law_digits b_law_digits fun cdv A outer s H E hr => by
    have nd := sc_law_digits.nd
    exact (x_cons (x_set 3 nd (q_lst a_nil)) (x_cons (x_if (t_cmp o_lt (q_var 0) q_int (nomark _)) (x_one (x_set 0 nd (q_bin o_sub (q_un o_neg q_int) (q_var 0)))) x_nil) (x_cons (x_if (t_cmp o_ge (q_var 0) (q_bin o_pow q_int q_int) (nomark _)) (x_one (x_for PassesOwn.never rfl (i_rng1 (by rfl) m_range q_int) (g_name 4 nd) (x_one (x_if (t_w (w_and (t_cmp o_gt (q_var 0) q_int (nomark _)) (w_and1 (t_cmp o_lt (q_callB c_len (by rfl) m_len PySem.boot_len (a_cons (q_var 3) a_nil)) (q_var 2) (nomark _))))) (x_cons (x_expr (q_m ty_list PySem.F.plainAttrs_list PySem.F.slot_list_append PySem.F.type_list_append m_append (q_var 3) (a_cons (q_bin o_mod (q_callTy c_int (by rfl) m_int (by decide +kernel) (a_cons (q_var 0) a_nil)) q_int) a_nil))) (x_one (x_set 0 nd (q_bin o_fdiv (q_var 0) q_int)))) x_nil)))) (x_cons (x_set 5 nd (q_bin o_mod (q_callTy c_int (by rfl) m_int (by decide +kernel) (a_cons (q_bin o_add (q_bin o_add (q_bin o_mulS (q_var 0) q_int) (q_bin o_mulS (q_var 1) q_int)) q_int) a_nil)) q_int)) (x_one (x_for PassesOwn.never rfl (i_rng1 (by rfl) m_range (q_var 2)) (g_name 4 nd) (x_cons (x_set 5 nd (q_bin o_mod (q_callTy c_int (by rfl) m_int (by decide +kernel) (a_cons (q_bin o_add (q_bin o_add (q_bin o_mulS (q_var 5) q_int) (q_bin o_mulS q_int (q_var 4))) q_int) a_nil)) q_int)) (x_one (x_expr (q_m ty_list PySem.F.plainAttrs_list PySem.F.slot_list_append PySem.F.type_list_append m_append (q_var 3) (a_cons (q_bin o_mod (q_callTy c_int (by rfl) m_int (by decide +kernel) (a_cons (q_bin o_fdiv (q_var 5) q_int) a_nil)) q_int) a_nil))))))))) (x_one (x_ret (q_var 3))))))
theorem ok_law_bodies {f : Addr} {fd : FuncData} (F : Fun K "_law_bodies" "_law_bodies" s_law_bodies f fd) (C_law_cell : Cal P w K mg base "_law_cell" 2 1 f_law_cell) (C_law_digits : Cal P w K mg base "_law_digits" 3 1 f_law_digits) (m_range : mg "range" = none) (m_int : mg "int" = none) : FnOk P w K mg base CX0 2 f fd ["script"] (SpQ K 1 f_law_bodies) :=
  okQ F sc_law_bodies b_law_bodies fun cdv A outer s H E hr => by
    have nd := sc_law_bodies.nd
    exact (x_cons (x_set 1 nd (q_lst a_nil)) (x_cons (x_for PassesOwn.never rfl (i_rng2 (by rfl) m_range q_int (q_bin o_add q_int (q_bin o_mod (q_callTy c_int (by rfl) m_int (by decide +kernel) (a_cons (q_call C_law_cell hr (by decide) (by rfl) (a_cons (q_var 0) (a_cons q_int a_nil))) a_nil)) q_int))) (g_name 2 nd) (x_cons (x_set 3 nd (q_call C_law_cell hr (by decide) (by rfl) (a_cons (q_var 0) (a_cons (q_var 2) a_nil)))) (x_cons (x_setLc 4 (own := [("digit", 5)]) rfl nd (by rfl) (by rfl) (by rfl) (i_seq (q_call C_law_digits hr (by decide) (by rfl) (a_cons (q_var 3) (a_cons (q_var 2) (a_cons (q_bin o_mod (q_callTy c_int (by rfl) m_int (by decide +kernel) (a_cons (q_var 3) a_nil)) q_int) a_nil))))) (blkOk_by (own := [("digit", 5)]) (N := ["script", "bodies", "k", "cell", "body", "digit"]) (sc := defScope s_law_bodies) (by decide +kernel)) (fun _ _ _ _ _ => n_name 5 nd (by decide)) (fun _ _ _ _ _ => ts_nil) (fun _ _ _ _ _ => (q_bin o_mod (q_callTy c_int (by rfl) m_int (by decide +kernel) (a_cons (q_var 5) a_nil)) q_int))) (x_one (x_expr (q_m ty_list PySem.F.plainAttrs_list PySem.F.slot_list_append PySem.F.type_list_append m_append (q_var 1) (a_cons (q_bin o_mulS (q_var 4) (q_ix (q_lst (a_cons q_int (a_cons q_int (a_cons q_int a_nil)))) (q_bin o_mod (q_callTy c_int (by rfl) m_int (by decide +kernel) (a_cons (q_bin o_fdiv (q_var 3) q_int) a_nil)) q_int) (fun _ _ => rfl))) a_nil))))))) (x_one (x_ret (q_var 1)))))
theorem ok_law_check {f : Addr} {fd : FuncData} (F : Fun K "_law_check" "_law_check" s_law_check f fd) (m_int : mg "int" = none) : FnOk P w K mg base CX0 1 f fd ["data"] (SpQ K 1 f_law_check) :=
  okQ F sc_law_check b_law_check fun cdv A outer s H E hr => by
    have nd := sc_law_check.nd
    exact (x_cons (x_set 1 nd q_int) (x_cons (x_for PassesOwn.never rfl (i_seq (q_var 0)) (g_name 2 nd) (x_one (x_set 1 nd (q_bin o_mod (q_callTy c_int (by rfl) m_int (by decide +kernel) (a_cons (q_bin o_add (q_bin o_mulS q_int (q_var 1)) (q_var 2)) a_nil)) q_int)))) (x_one (x_ret (q_var 1)))))
theorem ok_law_integer {f : Addr} {fd : FuncData} (F : Fun K "_law_integer" "_law_integer" s_law_integer f fd) (C_law_cell : Cal P w K mg base "_law_cell" 2 1 f_law_cell) (C_law_digits : Cal P w K mg base "_law_digits" 3 1 f_law_digits) (m_int : mg "int" = none) : FnOk P w K mg base CX0 2 f fd ["script", "k"] (SpQ K 2 f_law_integer) :=
  okQ F sc_law_integer b_law_integer fun cdv A outer s H E hr => by
    have nd := sc_law_integer.nd
    exact (x_cons (x_set 2 nd q_int) (x_cons (x_for PassesOwn.never rfl (i_seq (q_call C_law_digits hr (by decide) (by rfl) (a_cons (q_call C_law_cell hr (by decide) (by rfl) (a_cons (q_var 0) (a_cons (q_var 1) a_nil))) (a_cons (q_var 1) (a_cons (q_bin o_mod (q_callTy c_int (by rfl) m_int (by decide +kernel) (a_cons (q_call C_law_cell hr (by decide) (by rfl) (a_cons (q_var 0) (a_cons (q_var 1) a_nil))) a_nil)) q_int) a_nil))))) (g_name 3 nd) (x_one (x_set 2 nd (q_bin o_add (q_bin o_mulS (q_var 2) q_int) (q_callTy c_int (by rfl) m_int (by decide +kernel) (a_cons (q_var 3) a_nil)))))) (x_one (x_ret (q_bin o_sub (q_bin o_add (q_var 2) (q_ix (q_lst (a_cons q_int (a_cons q_int (a_cons q_int (a_cons q_int (a_cons q_int a_nil)))))) (q_bin o_mod (q_callTy c_int (by rfl) m_int (by decide +kernel) (a_cons (q_bin o_fdiv (q_call C_law_cell hr (by decide) (by rfl) (a_cons (q_var 0) (a_cons (q_var 1) a_nil))) q_int) a_nil)) q_int) (fun _ _ => rfl))) (q_callTy c_int (by rfl) m_int (by decide +kernel) (a_cons (q_cmp o_gt (q_var 2) q_int (nomark _)) a_nil)))))))
theorem ok_law_number {f : Addr} {fd : FuncData} (F : Fun K "_law_number" "_law_number" s_law_number f fd) (m_range : mg "range" = none) (m_int : mg "int" = none) : FnOk P w K mg base CX0 1 f fd ["n"] (SpQ K 1 f_law_number) :=
  okQ F sc_law_number b_law_number fun cdv A outer s H E hr => by
    have nd := sc_law_number.nd
    exact (x_cons (x_set 1 nd (q_lst a_nil)) (x_cons (x_for PassesOwn.never rfl (i_rng1 (by rfl) m_range q_int) (g_name 2 nd) (x_one (x_if (t_cmp o_ge (q_var 0) q_int (nomark _)) (x_cons (x_expr (q_m ty_list PySem.F.plainAttrs_list PySem.F.slot_list_append PySem.F.type_list_append m_append (q_var 1) (a_cons (q_bin o_add (q_bin o_mod (q_callTy c_int (by rfl) m_int (by decide +kernel) (a_cons (q_var 0) a_nil)) q_int) q_int) a_nil))) (x_one (x_set 0 nd (q_bin o_fdiv (q_var 0) q_int)))) x_nil))) (x_cons (x_expr (q_m ty_list PySem.F.plainAttrs_list PySem.F.slot_list_append PySem.F.type_list_append m_append (q_var 1) (a_cons (q_var 0) a_nil))) (x_one (x_ret (q_var 1))))))
theorem ok_number_bytes {f : Addr} {fd : FuncData} (F : Fun K "number_bytes" "number_bytes" s_number_bytes f fd) {t_BASE : Tok} (m_BASE : mg "BASE" = some (.int 128 t_BASE)) : FnOk P w K mg base CX0 1 f fd ["n"] (SpQ K 1 f_number_bytes) :=
  okQ F sc_number_bytes b_number_bytes fun cdv A outer s H E hr => by
    have nd := sc_number_bytes.nd
    exact (x_cons (x_set 1 nd (q_lst a_nil)) (x_cons (x_while PassesOwn.never (t_cmp o_ge (q_var 0) (q_globI (by rfl) m_BASE) (nomark _)) (x_cons (x_expr (q_m ty_list PySem.F.plainAttrs_list PySem.F.slot_list_append PySem.F.type_list_append m_append (q_var 1) (a_cons (q_bin o_add (q_bin o_mod (q_var 0) (q_globI (by rfl) m_BASE)) (q_globI (by rfl) m_BASE)) a_nil))) (x_one (x_aug 0 nd ia_fdiv (q_globI (by rfl) m_BASE))))) (x_one (x_ret (q_bin o_add (q_var 1) (q_lst (a_cons (q_var 0) a_nil)))))))
theorem ok_read_number {f : Addr} {fd : FuncData} (F : Fun K "read_number" "read_number" s_read_number f fd) (m_range : mg "range" = none) (m_len : mg "len" = none) {t_BASE : Tok} (m_BASE : mg "BASE" = some (.int 128 t_BASE)) : FnOk P w K mg base CX0 1 f fd ["data", "at"] (SpQ K 2 f_read_number) :=
  okQ F sc_read_number b_read_number fun cdv A outer s H E hr => by
    have nd := sc_read_number.nd
    exact (x_cons (x_set 2 nd q_int) (x_cons (x_set 3 nd q_int) (x_cons (x_for PassesOwn.never rfl (i_rng2 (by rfl) m_range (q_var 1) (q_callB c_len (by rfl) m_len PySem.boot_len (a_cons (q_var 0) a_nil))) (g_name 4 nd) (x_cons (x_set 5 nd (q_ix (q_var 0) (q_var 4) (fun _ _ => rfl))) (x_cons (x_if (t_cmp o_lt (q_var 5) (q_globI (by rfl) m_BASE) (nomark _)) (x_cons (x_if (t_w (w_and (t_cmp (o_eq hr) (q_var 5) q_int (nomark _)) (w_and1 (t_cmp o_gt (q_var 4) (q_var 1) (nomark _))))) (x_one (x_ret q_non)) x_nil) (x_one (x_ret (q_tup (a_cons (q_bin o_add (q_var 2) (q_bin o_mulS (q_var 5) (q_var 3))) (a_cons (q_bin o_add (q_var 4) q_int) a_nil)))))) x_nil) (x_cons (x_aug 2 nd ia_add (q_bin o_mulS (q_bin o_sub (q_var 5) (q_globI (by rfl) m_BASE)) (q_var 3))) (x_one (x_aug 3 nd ia_mul (q_globI (by rfl) m_BASE))))))) (x_one (x_ret q_non)))))
theorem ok_law_is_number {f : Addr} {fd : FuncData} (F : Fun K "_law_is_number" "_law_is_number" s_law_is_number f fd) (C_law_number : Cal P w K mg base "_law_number" 1 1 f_law_number) (C_number_bytes : Cal P w K mg base "number_bytes" 1 1 f_number_bytes) (C_read_number : Cal P w K mg base "read_number" 2 1 f_read_number) (m_list : mg "list" = none) (m_len : mg "len" = none) : FnOk P w K mg base CX0 2 f fd ["n"] (SpQ K 1 f_law_is_number) :=
  okQ F sc_law_is_number b_law_is_number fun cdv A outer s H E hr => by
    have nd := sc_law_is_number.nd
    exact (x_cons (x_set 1 nd (q_call C_law_number hr (by decide) (by rfl) (a_cons (q_var 0) a_nil))) (x_cons (x_if (t_w (w_or (t_cmp (o_ne hr) (q_callTy c_list (by rfl) m_list (by decide +kernel) (a_cons (q_call C_number_bytes hr (by decide) (by rfl) (a_cons (q_var 0) a_nil)) a_nil)) (q_var 1) (nomark _)) (w_or1 (t_cmp (o_ne hr) (q_call C_read_number hr (by decide) (by rfl) (a_cons (q_bin o_add (q_bin o_add (q_lst (a_cons q_int (a_cons q_int a_nil))) (q_var 1)) (q_lst (a_cons q_int a_nil))) (a_cons q_int a_nil))) (q_tup (a_cons (q_var 0) (a_cons (q_bin o_add q_int (q_callB c_len (by rfl) m_len PySem.boot_len (a_cons (q_var 1) a_nil))) a_nil))) (nomark _))))) (x_one (x_ret q_bl)) x_nil) (x_one (x_ret (q_and (q_cmp o_is (q_call C_read_number hr (by decide) (by rfl) (a_cons (q_slice (q_var 1) p_none (p_some (q_un o_neg q_int))) (a_cons q_int a_nil))) q_non (nomark _)) (q_bo1 (q_cmp o_is (q_call C_read_number hr (by decide) (by rfl) (a_cons (q_bin o_add (q_slice (q_var 1) p_none (p_some (q_un o_neg q_int))) (q_lst (a_cons (q_bin o_add (q_ix (q_var 1) (q_un o_neg q_int) (fun _ _ => rfl)) q_int) (a_cons q_int a_nil)))) (a_cons q_int a_nil))) q_non (nomark _))))))))
theorem ok_law_record {f : Addr} {fd : FuncData} (F : Fun K "_law_record" "_law_record" s_law_record f fd) (C_law_number : Cal P w K mg base "_law_number" 1 1 f_law_number) (C_law_check : Cal P w K mg base "_law_check" 1 1 f_law_check) (m_len : mg "len" = none) : FnOk P w K mg base CX0 2 f fd ["body"] (SpQ K 1 f_law_record) :=
  okQ F sc_law_record b_law_record fun cdv A outer s H E hr => by
    have nd := sc_law_record.nd
    exact (x_one (x_ret (q_bin o_add (q_bin o_add (q_call C_law_number hr (by decide) (by rfl) (a_cons (q_callB c_len (by rfl) m_len PySem.boot_len (a_cons (q_var 0) a_nil)) a_nil)) (q_var 0)) (q_call C_law_number hr (by decide) (by rfl) (a_cons (q_call C_law_check hr (by decide) (by rfl) (a_cons (q_var 0) a_nil)) a_nil)))))
theorem ok_sum_of_body {f : Addr} {fd : FuncData} (F : Fun K "sum_of_body" "sum_of_body" s_sum_of_body f fd) {t_FIRST_SUM : Tok} (m_FIRST_SUM : mg "FIRST_SUM" = some (.int 9 t_FIRST_SUM)) {t_FACTOR : Tok} (m_FACTOR : mg "FACTOR" = some (.int 139 t_FACTOR)) {t_MODULUS : Tok} (m_MODULUS : mg "MODULUS" = some (.int 65521 t_MODULUS)) : FnOk P w K mg base CX0 1 f fd ["body"] (SpQ K 1 f_sum_of_body) :=
  okQ F sc_sum_of_body b_sum_of_body fun cdv A outer s H E hr => by
    have nd := sc_sum_of_body.nd
    exact (x_cons (x_set 1 nd (q_globI (by rfl) m_FIRST_SUM)) (x_cons (x_for PassesOwn.never rfl (i_seq (q_var 0)) (g_name 2 nd) (x_one (x_set 1 nd (q_bin o_mod (q_bin o_add (q_bin o_mulS (q_globI (by rfl) m_FACTOR) (q_var 1)) (q_var 2)) (q_globI (by rfl) m_MODULUS))))) (x_one (x_ret (q_var 1)))))
theorem ok_read_record {f : Addr} {fd : FuncData} (F : Fun K "read_record" "read_record" s_read_record f fd) (C_read_number : Cal P w K mg base "read_number" 2 1 f_read_number) (C_sum_of_body : Cal P w K mg base "sum_of_body" 1 1 f_sum_of_body) (m_list : mg "list" = none) : FnOk P w K mg base CX0 2 f fd ["data", "at"] (SpQ K 2 f_read_record) :=
  okQ F sc_read_record b_read_record fun cdv A outer s H E hr => by
    have nd := sc_read_record.nd
    exact (x_cons (x_set 2 nd (q_call C_read_number hr (by decide) (by rfl) (a_cons (q_var 0) (a_cons (q_var 1) a_nil)))) (x_cons (x_if (t_cmp o_is (q_var 2) q_non (nomark _)) (x_one (x_ret q_non)) x_nil) (x_cons (x_set 3 nd (q_bin o_add (q_ix (q_var 2) q_int (fun _ _ => rfl)) (q_ix (q_var 2) q_int (fun _ _ => rfl)))) (x_cons (x_set 4 nd (q_call C_read_number hr (by decide) (by rfl) (a_cons (q_var 0) (a_cons (q_var 3) a_nil)))) (x_cons (x_if (t_cmp o_is (q_var 4) q_non (nomark _)) (x_one (x_ret q_non)) x_nil) (x_cons (x_set 5 nd (q_callTy c_list (by rfl) m_list (by decide +kernel) (a_cons (q_slice (q_var 0) (p_some (q_ix (q_var 2) q_int (fun _ _ => rfl))) (p_some (q_var 3))) a_nil))) (x_cons (x_if (t_cmp (o_ne hr) (q_ix (q_var 4) q_int (fun _ _ => rfl)) (q_call C_sum_of_body hr (by decide) (by rfl) (a_cons (q_var 5) a_nil)) (nomark _)) (x_one (x_ret q_non)) x_nil) (x_one (x_ret (q_tup (a_cons (q_var 5) (a_cons (q_ix (q_var 4) q_int (fun _ _ => rfl)) a_nil))))))))))))
theorem ok_record_of {f : Addr} {fd : FuncData} (F : Fun K "record_of" "record_of" s_record_of f fd) (C_number_bytes : Cal P w K mg base "number_bytes" 1 1 f_number_bytes) (C_sum_of_body : Cal P w K mg base "sum_of_body" 1 1 f_sum_of_body) (m_len : mg "len" = none) (m_list : mg "list" = none) : FnOk P w K mg base CX0 2 f fd ["body"] (SpQ K 1 f_record_of) :=
  okQ F sc_record_of b_record_of fun cdv A outer s H E hr => by
    have nd := sc_record_of.nd
    exact (x_one (x_ret (q_bin o_add (q_bin o_add (q_call C_number_bytes hr (by decide) (by rfl) (a_cons (q_callB c_len (by rfl) m_len PySem.boot_len (a_cons (q_var 0) a_nil)) a_nil)) (q_callTy c_list (by rfl) m_list (by decide +kernel) (a_cons (q_var 0) a_nil))) (q_call C_number_bytes hr (by decide) (by rfl) (a_cons (q_call C_sum_of_body hr (by decide) (by rfl) (a_cons (q_var 0) a_nil)) a_nil)))))
theorem ok_law {f : Addr} {fd : FuncData} (F : Fun K "law" "law" s_law f fd) (C_law_integer : Cal P w K mg base "_law_integer" 2 2 f_law_integer) (C_law_is_number : Cal P w K mg base "_law_is_number" 1 2 f_law_is_number) (C_law_bodies : Cal P w K mg base "_law_bodies" 1 2 f_law_bodies) (C_record_of : Cal P w K mg base "record_of" 1 2 f_record_of) (C_law_record : Cal P w K mg base "_law_record" 1 2 f_law_record) (C_read_record : Cal P w K mg base "read_record" 2 2 f_read_record) (C_law_cell : Cal P w K mg base "_law_cell" 2 1 f_law_cell) (C_law_number : Cal P w K mg base "_law_number" 1 1 f_law_number) (C_law_check : Cal P w K mg base "_law_check" 1 1 f_law_check) (m_range : mg "range" = none) (m_list : mg "list" = none) (m_len : mg "len" = none) (m_int : mg "int" = none) : FnOk P w K mg base CX0 3 f fd ["script"] (SpQ K 1 f_law) :=
  okQ F sc_law b_law fun cdv A outer s H E hr => by
    have nd := sc_law.nd
    exact (x_cons (x_for PassesOwn.never rfl (i_rng1 (by rfl) m_range q_int) (g_name 1 nd) (x_one (x_if (t_not (t_val (q_call C_law_is_number hr (by decide) (by rfl) (a_cons (q_call C_law_integer hr (by decide) (by rfl) (a_cons (q_var 0) (a_cons (q_var 1) a_nil))) a_nil)))) (x_one (x_ret q_bl)) x_nil))) (x_cons (x_set 2 nd (q_call C_law_bodies hr (by decide) (by rfl) (a_cons (q_var 0) a_nil))) (x_cons (x_set 3 nd (q_lst a_nil)) (x_cons (x_for PassesOwn.never rfl (i_seq (q_var 2)) (g_name 4 nd) (x_cons (x_if (t_cmp (o_ne hr) (q_callTy c_list (by rfl) m_list (by decide +kernel) (a_cons (q_call C_record_of hr (by decide) (by rfl) (a_cons (q_callTy c_list (by rfl) m_list (by decide +kernel) (a_cons (q_var 4) a_nil)) a_nil)) a_nil)) (q_call C_law_record hr (by decide) (by rfl) (a_cons (q_var 4) a_nil)) (nomark _)) (x_one (x_ret q_bl)) x_nil) (x_one (x_set 3 nd (q_bin o_add (q_var 3) (q_call C_law_record hr (by decide) (by rfl) (a_cons (q_var 4) a_nil))))))) (x_cons (x_set 5 nd q_int) (x_cons (x_for PassesOwn.never rfl (i_seq (q_var 2)) (g_name 4 nd) (x_cons (x_set 6 nd (q_call C_read_record hr (by decide) (by rfl) (a_cons (q_callTy c_list (by rfl) m_list (by decide +kernel) (a_cons (q_var 3) a_nil)) (a_cons (q_var 5) a_nil)))) (x_cons (x_if (t_w (w_or (t_cmp o_is (q_var 6) q_non (nomark _)) (w_or (t_cmp (o_ne hr) (q_callTy c_list (by rfl) m_list (by decide +kernel) (a_cons (q_ix (q_var 6) q_int (fun _ _ => rfl)) a_nil)) (q_var 4) (nomark _)) (w_or1 (t_cmp (o_ne hr) (q_ix (q_var 6) q_int (fun _ _ => rfl)) (q_bin o_add (q_var 5) (q_callB c_len (by rfl) m_len PySem.boot_len (a_cons (q_call C_law_record hr (by decide) (by rfl) (a_cons (q_var 4) a_nil)) a_nil))) (nomark _)))))) (x_one (x_ret q_bl)) x_nil) (x_one (x_set 5 nd (q_ix (q_var 6) q_int (fun _ _ => rfl))))))) (x_cons (x_set 7 nd (q_call C_law_record hr (by decide) (by rfl) (a_cons (q_ix (q_var 2) q_int (fun _ _ => rfl)) a_nil))) (x_cons (x_set 8 nd (q_bin o_mod (q_callTy c_int (by rfl) m_int (by decide +kernel) (a_cons (q_call C_law_cell hr (by decide) (by rfl) (a_cons (q_var 0) (a_cons q_int a_nil))) a_nil)) (q_callB c_len (by rfl) m_len PySem.boot_len (a_cons (q_var 7) a_nil)))) (x_cons (x_if (t_w (w_or (t_cmp o_isnot (q_call C_read_record hr (by decide) (by rfl) (a_cons (q_callTy c_list (by rfl) m_list (by decide +kernel) (a_cons (q_var 3) a_nil)) (a_cons (q_var 5) a_nil))) q_non (nomark _)) (w_or1 (t_cmp o_isnot (q_call C_read_record hr (by decide) (by rfl) (a_cons (q_slice (q_var 7) p_none (p_some (q_var 8))) (a_cons q_int a_nil))) q_non (nomark _))))) (x_one (x_ret q_bl)) x_nil) (x_cons (x_set 9 nd (q_callB c_len (by rfl) m_len PySem.boot_len (a_cons (q_ix (q_var 2) q_int (fun _ _ => rfl)) a_nil))) (x_cons (x_if (t_cmp o_gt (q_var 9) q_int (nomark _)) (x_cons (x_set 10 nd (q_callB c_len (by rfl) m_len PySem.boot_len (a_cons (q_call C_law_number hr (by decide) (by rfl) (a_cons (q_var 9) a_nil)) a_nil))) (x_cons (x_set 1 nd (q_bin o_add (q_var 10) (q_bin o_mod (q_callTy c_int (by rfl) m_int (by decide +kernel) (a_cons (q_call C_law_cell hr (by decide) (by rfl) (a_cons (q_var 0) (a_cons q_int a_nil))) a_nil)) (q_var 9)))) (x_cons (x_set 11 nd (q_callTy c_list (by rfl) m_list (by decide +kernel) (a_cons (q_var 7) a_nil))) (x_cons (x_asg (q_bin o_mod (q_callTy c_int (by rfl) m_int (by decide +kernel) (a_cons (q_bin o_add (q_bin o_add (q_ix (q_var 11) (q_var 1) (fun _ _ => rfl)) q_int) (q_bin o_mod (q_callTy c_int (by rfl) m_int (by decide +kernel) (a_cons (q_call C_law_cell hr (by decide) (by rfl) (a_cons (q_var 0) (a_cons q_int a_nil))) a_nil)) q_int)) a_nil)) q_int) (g_sub (q_var 11) (q_var 1))) (x_one (x_if (t_cmp (o_ne hr) (q_call C_law_check hr (by decide) (by rfl) (a_cons (q_slice (q_var 11) (p_some (q_var 10)) (p_some (q_bin o_add (q_var 10) (q_var 9)))) a_nil)) (q_call C_law_check hr (by decide) (by rfl) (a_cons (q_ix (q_var 2) q_int (fun _ _ => rfl)) a_nil)) (nomark _)) (x_one (x_ret (q_cmp o_is (q_call C_read_record hr (by decide) (by rfl) (a_cons (q_var 11) (a_cons q_int a_nil))) q_non (nomark _)))) x_nil)))))) x_nil) (x_one (x_ret q_bl)))))))))))))
end
theorem all_mk {l : PySem.W.OpenLaw} {w : World} {K : PySem.W.Frag} {h : Heap} {mg : Str → Option Value} {fa : Addr} (X : K.In h) (G : h.Ns mainGlobals mg) (hfa : mg "law" = some (.ref fa))
    {f0 : Addr} {od0 an0 : Option Addr} {sl0 : Array (Option Value)} {oc0 kV0 dc0 pm0 cd0 ct0 : Value}
    (a0 : PySem.W.nsIn K mainGlobals "_law_cell" = some (some (.ref f0))) (l0 : K.lookup f0 = some ⟨oc0, od0, .func (PySem.W.fnOf "_law_cell" "_law_cell" (defArgs s_law_cell) (defBody s_law_cell) (defScope s_law_cell) .none kV0 dc0 pm0 an0 cd0 ct0), sl0⟩) (c0 : PySem.W.codeIn K cd0 "_law_cell" = true) (k0 : PySem.W.keepIn K (.ref f0) = true)
    {f1 : Addr} {od1 an1 : Option Addr} {sl1 : Array (Option Value)} {oc1 kV1 dc1 pm1 cd1 ct1 : Value}
    (a1 : PySem.W.nsIn K mainGlobals "_law_digits" = some (some (.ref f1))) (l1 : K.lookup f1 = some ⟨oc1, od1, .func (PySem.W.fnOf "_law_digits" "_law_digits" (defArgs s_law_digits) (defBody s_law_digits) (defScope s_law_digits) .none kV1 dc1 pm1 an1 cd1 ct1), sl1⟩) (c1 : PySem.W.codeIn K cd1 "_law_digits" = true) (k1 : PySem.W.keepIn K (.ref f1) = true)
    {f2 : Addr} {od2 an2 : Option Addr} {sl2 : Array (Option Value)} {oc2 kV2 dc2 pm2 cd2 ct2 : Value}
    (a2 : PySem.W.nsIn K mainGlobals "_law_bodies" = some (some (.ref f2))) (l2 : K.lookup f2 = some ⟨oc2, od2, .func (PySem.W.fnOf "_law_bodies" "_law_bodies" (defArgs s_law_bodies) (defBody s_law_bodies) (defScope s_law_bodies) .none kV2 dc2 pm2 an2 cd2 ct2), sl2⟩) (c2 : PySem.W.codeIn K cd2 "_law_bodies" = true) (k2 : PySem.W.keepIn K (.ref f2) = true)
    {f3 : Addr} {od3 an3 : Option Addr} {sl3 : Array (Option Value)} {oc3 kV3 dc3 pm3 cd3 ct3 : Value}
    (a3 : PySem.W.nsIn K mainGlobals "_law_check" = some (some (.ref f3))) (l3 : K.lookup f3 = some ⟨oc3, od3, .func (PySem.W.fnOf "_law_check" "_law_check" (defArgs s_law_check) (defBody s_law_check) (defScope s_law_check) .none kV3 dc3 pm3 an3 cd3 ct3), sl3⟩) (c3 : PySem.W.codeIn K cd3 "_law_check" = true) (k3 : PySem.W.keepIn K (.ref f3) = true)
    {f4 : Addr} {od4 an4 : Option Addr} {sl4 : Array (Option Value)} {oc4 kV4 dc4 pm4 cd4 ct4 : Value}
    (a4 : PySem.W.nsIn K mainGlobals "_law_integer" = some (some (.ref f4))) (l4 : K.lookup f4 = some ⟨oc4, od4, .func (PySem.W.fnOf "_law_integer" "_law_integer" (defArgs s_law_integer) (defBody s_law_integer) (defScope s_law_integer) .none kV4 dc4 pm4 an4 cd4 ct4), sl4⟩) (c4 : PySem.W.codeIn K cd4 "_law_integer" = true) (k4 : PySem.W.keepIn K (.ref f4) = true)
    {f5 : Addr} {od5 an5 : Option Addr} {sl5 : Array (Option Value)} {oc5 kV5 dc5 pm5 cd5 ct5 : Value}
    (a5 : PySem.W.nsIn K mainGlobals "_law_number" = some (some (.ref f5))) (l5 : K.lookup f5 = some ⟨oc5, od5, .func (PySem.W.fnOf "_law_number" "_law_number" (defArgs s_law_number) (defBody s_law_number) (defScope s_law_number) .none kV5 dc5 pm5 an5 cd5 ct5), sl5⟩) (c5 : PySem.W.codeIn K cd5 "_law_number" = true) (k5 : PySem.W.keepIn K (.ref f5) = true)
    {f6 : Addr} {od6 an6 : Option Addr} {sl6 : Array (Option Value)} {oc6 kV6 dc6 pm6 cd6 ct6 : Value}
    (a6 : PySem.W.nsIn K mainGlobals "number_bytes" = some (some (.ref f6))) (l6 : K.lookup f6 = some ⟨oc6, od6, .func (PySem.W.fnOf "number_bytes" "number_bytes" (defArgs s_number_bytes) (defBody s_number_bytes) (defScope s_number_bytes) .none kV6 dc6 pm6 an6 cd6 ct6), sl6⟩) (c6 : PySem.W.codeIn K cd6 "number_bytes" = true) (k6 : PySem.W.keepIn K (.ref f6) = true)
    {f7 : Addr} {od7 an7 : Option Addr} {sl7 : Array (Option Value)} {oc7 kV7 dc7 pm7 cd7 ct7 : Value}
    (a7 : PySem.W.nsIn K mainGlobals "read_number" = some (some (.ref f7))) (l7 : K.lookup f7 = some ⟨oc7, od7, .func (PySem.W.fnOf "read_number" "read_number" (defArgs s_read_number) (defBody s_read_number) (defScope s_read_number) .none kV7 dc7 pm7 an7 cd7 ct7), sl7⟩) (c7 : PySem.W.codeIn K cd7 "read_number" = true) (k7 : PySem.W.keepIn K (.ref f7) = true)
    {f8 : Addr} {od8 an8 : Option Addr} {sl8 : Array (Option Value)} {oc8 kV8 dc8 pm8 cd8 ct8 : Value}
    (a8 : PySem.W.nsIn K mainGlobals "_law_is_number" = some (some (.ref f8))) (l8 : K.lookup f8 = some ⟨oc8, od8, .func (PySem.W.fnOf "_law_is_number" "_law_is_number" (defArgs s_law_is_number) (defBody s_law_is_number) (defScope s_law_is_number) .none kV8 dc8 pm8 an8 cd8 ct8), sl8⟩) (c8 : PySem.W.codeIn K cd8 "_law_is_number" = true) (k8 : PySem.W.keepIn K (.ref f8) = true)
    {f9 : Addr} {od9 an9 : Option Addr} {sl9 : Array (Option Value)} {oc9 kV9 dc9 pm9 cd9 ct9 : Value}
    (a9 : PySem.W.nsIn K mainGlobals "_law_record" = some (some (.ref f9))) (l9 : K.lookup f9 = some ⟨oc9, od9, .func (PySem.W.fnOf "_law_record" "_law_record" (defArgs s_law_record) (defBody s_law_record) (defScope s_law_record) .none kV9 dc9 pm9 an9 cd9 ct9), sl9⟩) (c9 : PySem.W.codeIn K cd9 "_law_record" = true) (k9 : PySem.W.keepIn K (.ref f9) = true)
    {f10 : Addr} {od10 an10 : Option Addr} {sl10 : Array (Option Value)} {oc10 kV10 dc10 pm10 cd10 ct10 : Value}
    (a10 : PySem.W.nsIn K mainGlobals "sum_of_body" = some (some (.ref f10))) (l10 : K.lookup f10 = some ⟨oc10, od10, .func (PySem.W.fnOf "sum_of_body" "sum_of_body" (defArgs s_sum_of_body) (defBody s_sum_of_body) (defScope s_sum_of_body) .none kV10 dc10 pm10 an10 cd10 ct10), sl10⟩) (c10 : PySem.W.codeIn K cd10 "sum_of_body" = true) (k10 : PySem.W.keepIn K (.ref f10) = true)
    {f11 : Addr} {od11 an11 : Option Addr} {sl11 : Array (Option Value)} {oc11 kV11 dc11 pm11 cd11 ct11 : Value}
    (a11 : PySem.W.nsIn K mainGlobals "read_record" = some (some (.ref f11))) (l11 : K.lookup f11 = some ⟨oc11, od11, .func (PySem.W.fnOf "read_record" "read_record" (defArgs s_read_record) (defBody s_read_record) (defScope s_read_record) .none kV11 dc11 pm11 an11 cd11 ct11), sl11⟩) (c11 : PySem.W.codeIn K cd11 "read_record" = true) (k11 : PySem.W.keepIn K (.ref f11) = true)
    {f12 : Addr} {od12 an12 : Option Addr} {sl12 : Array (Option Value)} {oc12 kV12 dc12 pm12 cd12 ct12 : Value}
    (a12 : PySem.W.nsIn K mainGlobals "record_of" = some (some (.ref f12))) (l12 : K.lookup f12 = some ⟨oc12, od12, .func (PySem.W.fnOf "record_of" "record_of" (defArgs s_record_of) (defBody s_record_of) (defScope s_record_of) .none kV12 dc12 pm12 an12 cd12 ct12), sl12⟩) (c12 : PySem.W.codeIn K cd12 "record_of" = true) (k12 : PySem.W.keepIn K (.ref f12) = true)
    {f13 : Addr} {od13 an13 : Option Addr} {sl13 : Array (Option Value)} {oc13 kV13 dc13 pm13 cd13 ct13 : Value}
    (a13 : PySem.W.nsIn K mainGlobals "law" = some (some (.ref f13))) (l13 : K.lookup f13 = some ⟨oc13, od13, .func (PySem.W.fnOf "law" "law" (defArgs s_law) (defBody s_law) (defScope s_law) .none kV13 dc13 pm13 an13 cd13 ct13), sl13⟩) (c13 : PySem.W.codeIn K cd13 "law" = true) (k13 : PySem.W.keepIn K (.ref f13) = true)
    (z_len : PySem.W.nsIn K mainGlobals "len" = some none)
    (z_range : PySem.W.nsIn K mainGlobals "range" = some none)
    (z_int : PySem.W.nsIn K mainGlobals "int" = some none)
    (z_list : PySem.W.nsIn K mainGlobals "list" = some none)
    {t_BASE : Tok} (z_BASE : PySem.W.nsIn K mainGlobals "BASE" = some (some (.int 128 t_BASE)))
    {t_FIRST_SUM : Tok} (z_FIRST_SUM : PySem.W.nsIn K mainGlobals "FIRST_SUM" = some (some (.int 9 t_FIRST_SUM)))
    {t_FACTOR : Tok} (z_FACTOR : PySem.W.nsIn K mainGlobals "FACTOR" = some (some (.int 139 t_FACTOR)))
    {t_MODULUS : Tok} (z_MODULUS : PySem.W.nsIn K mainGlobals "MODULUS" = some (some (.int 65521 t_MODULUS)))
    : ∃ fd : FuncData, (∀ (s : Shared) (v : Value), BindsTo s fd ⟨[v], []⟩ [("script", v)]) ∧ ∀ base : Heap, K.In base → base.Ns mainGlobals mg → FnOk l.prog w K mg base CX0 3 fa fd ["script"] (SpQ K 1 f_law) := by
  have e := hfa.symm.trans (PySem.W.mg_of X G a13)
  cases e
  have m_len := PySem.W.mg_none_of X G z_len
  have m_range := PySem.W.mg_none_of X G z_range
  have m_int := PySem.W.mg_none_of X G z_int
  have m_list := PySem.W.mg_none_of X G z_list
  have m_BASE := PySem.W.mg_of X G z_BASE
  have m_FIRST_SUM := PySem.W.mg_of X G z_FIRST_SUM
  have m_FACTOR := PySem.W.mg_of X G z_FACTOR
  have m_MODULUS := PySem.W.mg_of X G z_MODULUS
  have F0 := fun_mk (st := s_law_cell) l0 c0 k0
  have g0 := PySem.W.mg_of X G a0
  have b0 := F0.binds (ps := ["script", "k"]) fun _ _ _ _ _ _ us hl => match us, hl with | [_, _], _ => rfl
  have F1 := fun_mk (st := s_law_digits) l1 c1 k1
  have g1 := PySem.W.mg_of X G a1
  have b1 := F1.binds (ps := ["cell", "k", "most"]) fun _ _ _ _ _ _ us hl => match us, hl with | [_, _, _], _ => rfl
  have F2 := fun_mk (st := s_law_bodies) l2 c2 k2
  have g2 := PySem.W.mg_of X G a2
  have b2 := F2.binds (ps := ["script"]) fun _ _ _ _ _ _ us hl => match us, hl with | [_], _ => rfl
  have F3 := fun_mk (st := s_law_check) l3 c3 k3
  have g3 := PySem.W.mg_of X G a3
  have b3 := F3.binds (ps := ["data"]) fun _ _ _ _ _ _ us hl => match us, hl with | [_], _ => rfl
  have F4 := fun_mk (st := s_law_integer) l4 c4 k4
  have g4 := PySem.W.mg_of X G a4
  have b4 := F4.binds (ps := ["script", "k"]) fun _ _ _ _ _ _ us hl => match us, hl with | [_, _], _ => rfl
  have F5 := fun_mk (st := s_law_number) l5 c5 k5
  have g5 := PySem.W.mg_of X G a5
  have b5 := F5.binds (ps := ["n"]) fun _ _ _ _ _ _ us hl => match us, hl with | [_], _ => rfl
  have F6 := fun_mk (st := s_number_bytes) l6 c6 k6
  have g6 := PySem.W.mg_of X G a6
  have b6 := F6.binds (ps := ["n"]) fun _ _ _ _ _ _ us hl => match us, hl with | [_], _ => rfl
  have F7 := fun_mk (st := s_read_number) l7 c7 k7
  have g7 := PySem.W.mg_of X G a7
  have b7 := F7.binds (ps := ["data", "at"]) fun _ _ _ _ _ _ us hl => match us, hl with | [_, _], _ => rfl
  have F8 := fun_mk (st := s_law_is_number) l8 c8 k8
  have g8 := PySem.W.mg_of X G a8
  have b8 := F8.binds (ps := ["n"]) fun _ _ _ _ _ _ us hl => match us, hl with | [_], _ => rfl
  have F9 := fun_mk (st := s_law_record) l9 c9 k9
  have g9 := PySem.W.mg_of X G a9
  have b9 := F9.binds (ps := ["body"]) fun _ _ _ _ _ _ us hl => match us, hl with | [_], _ => rfl
  have F10 := fun_mk (st := s_sum_of_body) l10 c10 k10
  have g10 := PySem.W.mg_of X G a10
  have b10 := F10.binds (ps := ["body"]) fun _ _ _ _ _ _ us hl => match us, hl with | [_], _ => rfl
  have F11 := fun_mk (st := s_read_record) l11 c11 k11
  have g11 := PySem.W.mg_of X G a11
  have b11 := F11.binds (ps := ["data", "at"]) fun _ _ _ _ _ _ us hl => match us, hl with | [_, _], _ => rfl
  have F12 := fun_mk (st := s_record_of) l12 c12 k12
  have g12 := PySem.W.mg_of X G a12
  have b12 := F12.binds (ps := ["body"]) fun _ _ _ _ _ _ us hl => match us, hl with | [_], _ => rfl
  have F13 := fun_mk (st := s_law) l13 c13 k13
  have g13 := PySem.W.mg_of X G a13
  have b13 := F13.binds (ps := ["script"]) fun _ _ _ _ _ _ us hl => match us, hl with | [_], _ => rfl
  refine ⟨PySem.W.fnOf "law" "law" (defArgs s_law) (defBody s_law) (defScope s_law) .none kV13 dc13 pm13 an13 cd13 ct13, fun s v => .of_eq rfl, fun base _ _ => ?_⟩
  have C_law_cell : Cal l.prog w K mg base "_law_cell" 2 1 f_law_cell := cal_mk rfl (ok_law_cell F0 m_len) F0 g0 b0
  have C_law_digits : Cal l.prog w K mg base "_law_digits" 3 1 f_law_digits := cal_mk rfl (ok_law_digits F1 m_range m_len m_int) F1 g1 b1
  have C_law_bodies : Cal l.prog w K mg base "_law_bodies" 1 2 f_law_bodies := cal_mk rfl (ok_law_bodies F2 C_law_cell C_law_digits m_range m_int) F2 g2 b2
  have C_law_check : Cal l.prog w K mg base "_law_check" 1 1 f_law_check := cal_mk rfl (ok_law_check F3 m_int) F3 g3 b3
  have C_law_integer : Cal l.prog w K mg base "_law_integer" 2 2 f_law_integer := cal_mk rfl (ok_law_integer F4 C_law_cell C_law_digits m_int) F4 g4 b4
  have C_law_number : Cal l.prog w K mg base "_law_number" 1 1 f_law_number := cal_mk rfl (ok_law_number F5 m_range m_int) F5 g5 b5
  have C_number_bytes : Cal l.prog w K mg base "number_bytes" 1 1 f_number_bytes := cal_mk rfl (ok_number_bytes F6 m_BASE) F6 g6 b6
  have C_read_number : Cal l.prog w K mg base "read_number" 2 1 f_read_number := cal_mk rfl (ok_read_number F7 m_range m_len m_BASE) F7 g7 b7
  have C_law_is_number : Cal l.prog w K mg base "_law_is_number" 1 2 f_law_is_number := cal_mk rfl (ok_law_is_number F8 C_law_number C_number_bytes C_read_number m_list m_len) F8 g8 b8
  have C_law_record : Cal l.prog w K mg base "_law_record" 1 2 f_law_record := cal_mk rfl (ok_law_record F9 C_law_number C_law_check m_len) F9 g9 b9
  have C_sum_of_body : Cal l.prog w K mg base "sum_of_body" 1 1 f_sum_of_body := cal_mk rfl (ok_sum_of_body F10 m_FIRST_SUM m_FACTOR m_MODULUS) F10 g10 b10
  have C_read_record : Cal l.prog w K mg base "read_record" 2 2 f_read_record := cal_mk rfl (ok_read_record F11 C_read_number C_sum_of_body m_list) F11 g11 b11
  have C_record_of : Cal l.prog w K mg base "record_of" 1 2 f_record_of := cal_mk rfl (ok_record_of F12 C_number_bytes C_sum_of_body m_len m_list) F12 g12 b12
  exact ok_law F13 C_law_integer C_law_is_number C_law_bodies C_record_of C_law_record C_read_record C_law_cell C_law_number C_law_check m_range m_list m_len m_int
/-- what is left: the law's own reckoning -/
def Goal : Prop := ∀ ns : List Int, ns.length ≤ 63 → ∃ m', f_law [.ref 0] [.frz (ns.map .int)] = .ok (.bl true) m'
end Lw

set_option Elab.async false
set_option linter.all false
set_option maxRecDepth 100000
set_option maxHeartbeats 400000
namespace Lw
open PySem PySem.Spec PyProof.Rows L2 SM
local macro_rules | `(tactic| walk_at "w1") => `(tactic| try simp -dsimp only [wp_fn, s_nil, s_brk, s_cnt, s_expr, s_ret, s_retN, s_if, s_asn, s_par, s_asg, g_nm, g_nil, g_cons, g_tupT, g_subW,
  w_v0, w_vS, w_c, w_op, w_un, w_anil, w_acons, w_tup, w_lst, w_call, w_callU, w_isi, w_meth, w_tru, w_bool, w_notS, w_andS, w_orS, w_ifx, w_andV, w_orV, w_notV, w_chain,
  wp_ok, wp_bad, wp_some, wp_none, wp_liftif, wp_if, asB_b, wp_noex,
  add_ii, sub_ii, mul_ii, fdiv_ii, mod_ii, pow_ii, neg_i, cmp_ii, lt_ii, le_ii, gt_ii, ge_ii, le_cc, muls_ii, muls_si, ins_cs, iadd_ii, isub_ii, w_onone, w_osome, w_sl, sl_s, sl_t, s_aug, eq_ss, len_s, ix_s, add_ss, str_s, tuple_t, list_t, is_n, not_n, non_n, non_i, non_b, non_s, non_t, non_r, abs_i, max_ii, min_ii, int_i, int_b, gcd_ii, len_t, ix_t, eq_v, ne_v, eq_ii, eq_bb, eq_nn, eq_in, eq_ni, iv_n_list, iv_n_tuple, iv_n_bool, iv_n_str, iv_n_int, okt_n, iv_b_list, iv_b_tuple, iv_b_bool, iv_b_str, iv_b_int, okt_b, iv_i_list, iv_i_tuple, iv_i_bool, iv_i_str, iv_i_int, okt_i, iv_s_list, iv_s_tuple, iv_s_bool, iv_s_str, iv_s_int, okt_s, iv_t_list, iv_t_tuple, iv_t_bool, iv_t_str, iv_t_int, okt_t, iv_r_list, iv_r_tuple, iv_r_bool, iv_r_str, iv_r_int, tru_b, tru_i, tru_n, tru_t, Option.map_some, Option.map_none,
  List.map_cons, List.map_nil, List.length_cons, List.length_nil, List.set_cons_zero, List.set_cons_succ, List.cons_append, List.nil_append, List.replicate, Nat.reduceAdd, Nat.reduceSub, Nat.reduceLeDiff, true_and, and_true, decide_eq_true_eq, reduceIte, Bool.false_eq_true, Bool.not_true, Bool.not_false, decide_true, decide_false])
local macro_rules | `(tactic| walk_at "wp") => `(tactic| try simp -dsimp only [s_seq, wp_fn, s_nil, s_brk, s_cnt, s_expr, s_ret, s_retN, s_if, s_asn, s_par, s_asg, g_nm, g_nil, g_cons, g_tupT, g_subW,
  w_v0, w_vS, w_c, w_op, w_un, w_anil, w_acons, w_tup, w_lst, w_call, w_callU, w_isi, w_meth, w_tru, w_bool, w_notS, w_andS, w_orS, w_ifx, w_andV, w_orV, w_notV, w_chain,
  wp_ok, wp_bad, wp_some, wp_none, wp_liftif, wp_if, asB_b, wp_noex,
  add_ii, sub_ii, mul_ii, fdiv_ii, mod_ii, pow_ii, neg_i, cmp_ii, lt_ii, le_ii, gt_ii, ge_ii, le_cc, muls_ii, muls_si, ins_cs, iadd_ii, isub_ii, w_onone, w_osome, w_sl, sl_s, sl_t, s_aug, eq_ss, len_s, ix_s, add_ss, str_s, tuple_t, list_t, is_n, not_n, non_n, non_i, non_b, non_s, non_t, non_r, abs_i, max_ii, min_ii, int_i, int_b, gcd_ii, len_t, ix_t, eq_v, ne_v, eq_ii, eq_bb, eq_nn, eq_in, eq_ni, iv_n_list, iv_n_tuple, iv_n_bool, iv_n_str, iv_n_int, okt_n, iv_b_list, iv_b_tuple, iv_b_bool, iv_b_str, iv_b_int, okt_b, iv_i_list, iv_i_tuple, iv_i_bool, iv_i_str, iv_i_int, okt_i, iv_s_list, iv_s_tuple, iv_s_bool, iv_s_str, iv_s_int, okt_s, iv_t_list, iv_t_tuple, iv_t_bool, iv_t_str, iv_t_int, okt_t, iv_r_list, iv_r_tuple, iv_r_bool, iv_r_str, iv_r_int, tru_b, tru_i, tru_n, tru_t, Option.map_some, Option.map_none,
  List.map_cons, List.map_nil, List.length_cons, List.length_nil, List.set_cons_zero, List.set_cons_succ, List.cons_append, List.nil_append, List.replicate, Nat.reduceAdd, Nat.reduceSub, Nat.reduceLeDiff, true_and, and_true, decide_eq_true_eq, reduceIte, Bool.false_eq_true, Bool.not_true, Bool.not_false, decide_true, decide_false])
local macro_rules | `(tactic| walk_at "sq") => `(tactic| (rw [s_seq]; walk_at "w1"))
set_option exponentiation.threshold 5000 in
theorem big_of {n : Nat} (h : n < 1606938044258990275541962092341162602522202993782792835301376) : n < big := Nat.lt_of_lt_of_le h (by rw [big_eq]; decide)
theorem fmod_pos {a b : Int} (h : 0 < b) : a.fmod b = a % b := Int.fmod_eq_emod_of_nonneg a (by omega)
theorem fdiv_pos {a b : Int} (h : 0 < b) : a.fdiv b = a / b := Int.fdiv_eq_ediv_of_nonneg a (by omega)
/-! the heap of the reckoning -/
theorem seq_of_lst {m : MH} {n : Nat} {xs : List PV} (h : m[n]? = some (.lst xs)) : seq? m n = some xs := by unfold seq?; rw [h]
theorem seq_of_frz {m : MH} {n : Nat} {xs : List PV} (h : m[n]? = some (.frz xs)) : seq? m n = some xs := by unfold seq?; rw [h]
theorem lst_of {m : MH} {n : Nat} {xs : List PV} (h : m[n]? = some (.lst xs)) : lst? m n = some xs := by unfold lst?; rw [h]
theorem get_new {m : MH} {o : MO} : (m ++ [o])[m.length]? = some o := by simp
theorem set_new {m : MH} {o u : MO} : (m ++ [o]).set m.length u = m ++ [u] := by simp [List.set_append]
theorem get_old {m : MH} {o u : MO} {n : Nat} (h : m[n]? = some u) : (m ++ [o])[n]? = some u := by
  rw [List.getElem?_append_left (List.getElem?_eq_some_iff.mp h).1]; exact h
theorem atI_nn {α : Type} {xs : List α} {i : Int} (h : 0 ≤ i) (h2 : i < xs.length) : atI xs i = xs[i.toNat]? := by
  unfold atI ixN
  rw [if_pos h, if_pos h2]
  rfl
theorem cell_ok {m : MH} {r : Nat} {ns : List Int} {k : Int} (h : seq? m r = some (ns.map .int)) (hk : 0 ≤ k) :
    WP (f_law_cell [.ref r, .int k] m) (fun x m' => x = .int (ns.getD k.toNat 0) ∧ m' = m) NoE := by
  unfold f_law_cell b_law_cell
  walk_at "wp"
  rw [len_r h]
  walk_at "wp"
  rw [List.length_map]
  by_cases hl : k < ns.length
  · rw [if_pos hl]
    walk_at "wp"
    rw [ix_r h, atI_nn hk (by rw [List.length_map]; exact hl), List.getElem?_map, List.getElem?_eq_getElem (by omega)]
    walk_at "wp"
    rw [List.getD_eq_getElem?_getD, List.getElem?_eq_getElem (by omega)]
    rfl
  · rw [if_neg hl]
    walk_at "wp"
    rw [List.getD_eq_getElem?_getD, List.getElem?_eq_none (by omega)]
    rfl
/-- a list of drawn digits -/
def Dig (ds : List Int) : Prop := ∀ d ∈ ds, 0 ≤ d ∧ d < 1000
theorem Dig.snoc {ds : List Int} (h : Dig ds) (x : Int) : Dig (ds ++ [x % 1000]) := by
  intro d hd
  rcases List.mem_append.mp hd with q | q
  · exact h d q
  · rw [List.mem_singleton] at q
    subst q
    exact ⟨Int.emod_nonneg _ (by decide), Int.emod_lt_of_pos _ (by decide)⟩
theorem append_new {m : MH} {ds : List Int} {v : Int} (h : ds.length < 16777216) : appendv (.ref m.length) [.int v] (m ++ [.lst (ds.map .int)]) = some (.non, m ++ [.lst ((ds ++ [v]).map .int)]) := by
  unfold appendv
  dsimp only
  rw [lst_of get_new]
  dsimp only
  rw [if_pos (by rw [List.length_map]; exact h), set_new, List.map_append]
  rfl
theorem isLst_new {m : MH} {xs : List PV} : isLst (m ++ [.lst xs]) (.ref m.length) = true := by
  show (seq? (m ++ [.lst xs]) m.length).isSome = true
  rw [seq_of_lst get_new]
  rfl
/-! ## the law's own: digits -/
theorem digits_okW {m : MH} {c k : Int} {w : Nat} (hk : 0 ≤ k) (hk2 : k ≤ 100) (hw : w ≤ 20) :
    WP (f_law_digits [.int c, .int k, .int (w : Nat)] m) (fun x m' => ∃ ds, x = .ref m.length ∧ m' = m ++ [.lst (ds.map .int)] ∧ Dig ds ∧ ds.length ≤ w) NoE := by
  unfold f_law_digits b_law_digits
  walk_at "w1"
  walk_at "sq"
  refine s_cut (mid := fun l m' => ∃ c, 0 ≤ c ∧ l = [some (.int c), some (.int k), some ((.int (w : Nat))), some (.ref m.length), none, none] ∧ m' = m ++ [.lst []]) ?_ ?_
  · walk_at "w1"
    by_cases h0 : c < 0
    · rw [if_pos h0]
      walk_at "w1"
      exact ⟨-1 - c, by omega, rfl⟩
    · rw [if_neg h0]
      exact ⟨c, by omega, rfl⟩
  rintro _ _ ⟨c, hc, rfl, rfl⟩
  rw [s_seq]
  walk_at "w1"
  rw [if_pos (by decide)]
  simp only [Int.reduceToNat, Int.reducePow]
  by_cases hbig : 1000000000000000000 ≤ c
  · rw [if_pos hbig]
    refine s_for1 (j := 60) 60 rfl rfl (by decide) (by decide) (fun j l m' => ∃ ds' c' x4, l = [some (.int c'), some (.int k), some ((.int (w : Nat))), some (.ref m.length), x4, none] ∧ m' = m ++ [.lst (ds'.map .int)] ∧ Dig ds' ∧ ds'.length ≤ w ∧ 0 ≤ c') ⟨[], c, none, rfl, rfl, (fun _ h => by cases h), by simp, hc⟩ ?_ ?_
    · rintro j l m' hj ⟨ds', c', x4, rfl, rfl, hd', hl', hc'⟩
      unfold law_digits_l1
      walk_at "w1"
      by_cases h0 : 0 < c'
      · rw [if_pos h0]
        rw [len_r (seq_of_lst get_new), List.length_map]
        walk_at "w1"
        by_cases h1 : ((ds'.length : Nat) : Int) < (w : Nat)
        · rw [if_pos h1]
          walk_at "sq"
          refine ⟨isLst_new, ?_⟩
          rw [if_pos (by decide), fmod_pos (by decide), append_new (by omega)]
          walk_at "wp"
          rw [if_pos ⟨by decide, big_of (by decide)⟩, fdiv_pos (by decide)]
          exact ⟨ds' ++ [c' % 1000], c' / 1000, _, rfl, rfl, hd'.snoc c', by simp; omega, Int.ediv_nonneg hc' (by decide)⟩
        · rw [if_neg h1]
          exact ⟨ds', c', _, rfl, rfl, hd', by omega, hc'⟩
      · rw [if_neg h0]
        exact ⟨ds', c', _, rfl, rfl, hd', by omega, hc'⟩
    · rintro l m' ⟨ds', c', x4, rfl, rfl, hd', hl', hc'⟩
      walk_at "w1"
      exact ⟨ds', rfl, hd', hl'⟩
  · rw [if_neg hbig]
    have hlt : c < 1000000000000000000 := by omega
    walk_at "sq"
    rw [if_pos (.inl (.inl (by omega))), if_pos (.inl (.inl (by omega))), if_pos (by decide), fmod_pos (by decide)]
    refine s_for1W ?_
    try simp -dsimp only [at0, at1, at2, at3, at4, at5, at6, wp_fn, s_nil, s_brk, s_cnt, s_expr, s_ret, s_retN, s_if, s_asn, s_par, s_asg, g_nm, g_nil, g_cons, g_tupT, g_subW, w_v0, w_vS, w_c, w_op, w_un, w_anil, w_acons, w_tup, w_lst, w_call, w_callU, w_isi, w_meth, w_tru, w_bool, w_notS, w_andS, w_orS, w_ifx, w_andV, w_orV, w_notV, w_chain, wp_ok, wp_bad, wp_some, wp_none, wp_liftif, wp_if, asB_b, wp_noex, add_ii, sub_ii, mul_ii, fdiv_ii, mod_ii, pow_ii, neg_i, cmp_ii, lt_ii, le_ii, gt_ii, ge_ii, le_cc, muls_ii, muls_si, ins_cs, iadd_ii, isub_ii, w_onone, w_osome, w_sl, sl_s, sl_t, s_aug, eq_ss, len_s, ix_s, add_ss, str_s, tuple_t, list_t, is_n, not_n, non_n, non_i, non_b, non_s, non_t, non_r, abs_i, max_ii, min_ii, int_i, int_b, gcd_ii, len_t, ix_t, eq_v, ne_v, eq_ii, eq_bb, eq_nn, eq_in, eq_ni, iv_n_list, iv_n_tuple, iv_n_bool, iv_n_str, iv_n_int, okt_n, iv_b_list, iv_b_tuple, iv_b_bool, iv_b_str, iv_b_int, okt_b, iv_i_list, iv_i_tuple, iv_i_bool, iv_i_str, iv_i_int, okt_i, iv_s_list, iv_s_tuple, iv_s_bool, iv_s_str, iv_s_int, okt_s, iv_t_list, iv_t_tuple, iv_t_bool, iv_t_str, iv_t_int, okt_t, iv_r_list, iv_r_tuple, iv_r_bool, iv_r_str, iv_r_int, tru_b, tru_i, tru_n, tru_t, Option.map_some, Option.map_none, List.map_cons, List.map_nil, List.length_cons, List.length_nil, List.set_cons_zero, List.set_cons_succ, List.cons_append, List.nil_append, List.replicate, Nat.reduceAdd, Nat.reduceSub, Nat.reduceLeDiff, true_and, and_true, decide_eq_true_eq, reduceIte, Bool.false_eq_true, Bool.not_true, Bool.not_false, decide_true, decide_false]
    refine ⟨_, rfl, by omega, by omega, fun j l m' => ∃ ds' sd x4, l = [some (.int c), some (.int k), some ((.int (w : Nat))), some (.ref m.length), x4, some (.int sd)] ∧ m' = m ++ [.lst (ds'.map .int)] ∧ Dig ds' ∧ ds'.length ≤ j ∧ 0 ≤ sd ∧ sd < 2147483647, ⟨[], _, none, rfl, rfl, (fun _ h => by cases h), by simp, Int.emod_nonneg _ (by decide), Int.emod_lt_of_pos _ (by decide)⟩, ?_, ?_⟩
    · rintro j l m' hj ⟨ds', sd, x4, rfl, rfl, hd', hl', hs1, hs2⟩
      unfold law_digits_l2
      walk_at "w1"
      walk_at "sq"
      rw [if_pos (.inl (.inl (by omega))), if_pos (.inl (.inl (by decide))), if_pos (by decide)]
      walk_at "w1"
      refine ⟨isLst_new, ?_⟩
      rw [if_pos ⟨by decide, big_of (by decide)⟩, if_pos (by decide), fmod_pos (by decide), fmod_pos (by decide), append_new (by omega)]
      walk_at "w1"
      exact ⟨_, _, _, rfl, rfl, hd'.snoc _, by simp; omega, Int.emod_nonneg _ (by decide), Int.emod_lt_of_pos _ (by decide)⟩
    · rintro l m' ⟨ds', sd, x4, rfl, rfl, hd', hl', _⟩
      walk_at "w1"
      exact ⟨ds', rfl, hd', by omega⟩
/-- for x in range(a, b), where a and b are reckoned -/
theorem s_for2W {l : SM.Loc} {m : MH} {D : ED} {a b : SE} {g : STg} {body : SS} (h : WP (a l m) (fun x m1 => WP (b l m1) (fun y m2 => ∃ i j : Int, x = .int i ∧ y = .int j ∧ (-4611686018427387904 ≤ i ∧ i < 4611686018427387904 ∧ -4611686018427387904 ≤ j ∧ j < 4611686018427387904) ∧ ∃ I : Nat → SM.Loc → MH → Prop, I 0 l m2 ∧
    (∀ k l m, k < (j - i).toNat → I k l m → WG (g (.int (i + (k : Nat))) l m) (fun l1 m1 => WS (body l1 m1) ⟨I (k + 1), D.rt, D.nx, I (k + 1), D.ex⟩)) ∧ (∀ l m, I (j - i).toNat l m → D.nx l m)) NoE) NoE) : WS (xFor (iRng2S a b) g body l m) D := by
  obtain ⟨x, m1, e, h⟩ := h.run
  obtain ⟨y, m2, e2, i, j, rfl, rfl, hj, I, h3, h4, h5⟩ := h.run
  exact s_for2 (j - i).toNat rfl e e2 hj I h3 h4 h5
/-! ## the heap grows -/
structure Gr (m m' : MH) : Prop where
  len : m.length ≤ m'.length
  get : ∀ (n : Nat) (o : MO), m[n]? = some o → m'[n]? = some o
theorem Gr.refl {m : MH} : Gr m m := ⟨Nat.le_refl _, fun _ _ h => h⟩
theorem Gr.trans {m m1 m2 : MH} (h : Gr m m1) (h2 : Gr m1 m2) : Gr m m2 := ⟨Nat.le_trans h.len h2.len, fun n o e => h2.get n o (h.get n o e)⟩
theorem Gr.push {m m1 : MH} (h : Gr m m1) (o : MO) : Gr m (m1 ++ [o]) := ⟨by have := h.len; simp; omega, fun n u e => get_old (h.get n u e)⟩
theorem Gr.set {n : Nat} {m m1 : MH} {o : MO} (h : Gr m m1) (hn : m.length ≤ n) : Gr m (m1.set n o) := ⟨by simpa using h.len, fun k u q => by
  have hk := (List.getElem?_eq_some_iff.mp q).1
  rw [List.getElem?_set_ne (by omega)]; exact h.get k u q⟩
theorem Gr.new {m m' : MH} {o : MO} (h : Gr (m ++ [o]) m') : m'[m.length]? = some o := h.get _ _ get_new
theorem Gr.one {m : MH} {o : MO} : Gr m (m ++ [o]) := Gr.refl.push o
/-! ## rules for dicts and sorts -/
theorem s_dputT {sv sd : SE} {sk : SA} {l : SM.Loc} {m : MH} {D : ED} (h : WP (sv l m) (fun v m1 => WP (sd l m1) (fun x m2 => WP (sk l m2) (fun ks m3 => ∃ n a b kvs, x = .ref n ∧ ks = [.int a, .int b] ∧ m3[n]? = some (.dct kvs) ∧ kvs.length < 16777216 ∧ D.nx l (m3.set n (.dct (putD kvs [a, b] v)))) NoE) NoE) NoE) : WS (xDPutT sv sd sk l m) D := by
  obtain ⟨v, m1, e1, h⟩ := h.run
  obtain ⟨x, m2, e2, h⟩ := h.run
  obtain ⟨ks, m3, e3, n, a, b, kvs, rfl, rfl, hm, hl, q⟩ := h.run
  have e : xDPutT sv sd sk l m = .nx l (m3.set n (.dct (putD kvs [a, b] v))) := by
    unfold xDPutT
    rw [e1]; dsimp only [R.then]
    rw [e2]; dsimp only [R.then]
    rw [e3]; dsimp only [R.then]
    rw [hm]; dsimp only
    rw [if_pos hl]
  rw [e]
  unfold WS
  exact q
theorem s_dputK {sv sd sk : SE} {l : SM.Loc} {m : MH} {D : ED} (h : WP (sv l m) (fun v m1 => WP (sd l m1) (fun x m2 => WP (sk l m2) (fun k m3 => ∃ n a kvs, x = .ref n ∧ k = .int a ∧ m3[n]? = some (.dck kvs) ∧ kvs.length < 16777216 ∧ D.nx l (m3.set n (.dck (putD kvs a v)))) NoE) NoE) NoE) : WS (xDPutK sv sd sk l m) D := by
  obtain ⟨v, m1, e1, h⟩ := h.run
  obtain ⟨x, m2, e2, h⟩ := h.run
  obtain ⟨k, m3, e3, n, a, kvs, rfl, rfl, hm, hl, q⟩ := h.run
  have e : xDPutK sv sd sk l m = .nx l (m3.set n (.dck (putD kvs a v))) := by
    unfold xDPutK
    rw [e1]; dsimp only [R.then]
    rw [e2]; dsimp only [R.then]
    rw [e3]; dsimp only [R.then]
    rw [hm]; dsimp only
    rw [if_pos hl]
  rw [e]
  unfold WS
  exact q
theorem w_dnewT {l : SM.Loc} {m : MH} {Q : PV → MH → Prop} {E : EX} : WP (sDNewT l m) Q E = Q (.ref m.length) (m ++ [.dct []]) := by unfold sDNewT; rw [wp_ok]
theorem w_dnewK {l : SM.Loc} {m : MH} {Q : PV → MH → Prop} {E : EX} : WP (sDNewK l m) Q E = Q (.ref m.length) (m ++ [.dck []]) := by unfold sDNewK; rw [wp_ok]
theorem dget_r {m : MH} {n : Nat} {kvs : List (List Int × PV)} {a b : Int} {x : PV} (h : m[n]? = some (.dct kvs)) (hg : SM.getD kvs [a, b] = some x) : dgetv (.ref n) (.tup [.int a, .int b]) m = some (x, m) := by
  unfold dgetv; dsimp only; rw [h]; dsimp only; rw [hg]; rfl
theorem sortT_r {m : MH} {n : Nat} {kvs : List (List Int × PV)} (h : m[n]? = some (.dct kvs)) (ok : SortOk m (keyPVs kvs)) : sortedTv [.ref n] m = some (.ref m.length, m ++ [.lst (sortD m (keyPVs kvs))]) := by
  unfold sortedTv; dsimp only; rw [h]; dsimp only; rw [if_pos ok]
theorem sortD_r {m : MH} {n : Nat} {xs : List PV} (h : seq? m n = some xs) (ok : SortOk m xs) : sortedDv [.ref n] m = some (.ref m.length, m ++ [.lst (sortD m xs)]) := by
  unfold sortedDv; dsimp only; rw [h]; dsimp only; rw [if_pos ok]
theorem sum_t {m : MH} {ns : List Int} : sumv [.tup (ns.map .int)] m = some (.int ns.sum, m) := by
  unfold sumv; dsimp only; rw [SM.ints_map]; rfl
/-! ## the slips that count -/
theorem w_lcT {b t e : _} {l : SM.Loc} {m : MH} {g : STg} {vs : List Nat} {Q : PV → MH → Prop} {E : EX} (h : WP (b l m) (fun x m1 => ∃ xs, x = .tup xs ∧ ∃ I : Nat → List PV → MH → Prop, I 0 [] (m1 ++ [.lst []]) ∧
    (∀ i x acc m, xs[i]? = some x → m[m1.length]? = some (.lst acc) → I i acc m → WG (g x (wipeP l vs) m) (fun l1 m' => WP (t l1 m') (fun b m2 => if b = true then WP (e l1 m2) (fun y m3 => m3[m1.length]? = some (.lst acc) ∧ acc.length < 16777216 ∧ I (i + 1) (acc ++ [y]) (m3.set m1.length (.lst (acc ++ [y])))) NoE else m2[m1.length]? = some (.lst acc) ∧ I (i + 1) acc m2) NoE)) ∧
    (∀ acc m, m[m1.length]? = some (.lst acc) → I xs.length acc m → Q (.ref m1.length) m)) NoE) : WP (sLc (iSeq b) g t e vs l m) Q E := by
  obtain ⟨x, m1, ee, xs, rfl, I, h3, h4, h5⟩ := h.run
  exact w_lc (si_seqT ee) I h3 (fun i x acc m hx hl hi => ⟨trivial, h4 i x acc m hx hl hi⟩) (fun acc m hl hi => ⟨trivial, h5 acc m hl hi⟩)
theorem _root_.SM.WG.mono {o : Option (SM.Loc × MH)} {Q Q' : SM.Loc → MH → Prop} (h : WG o Q) (i : ∀ l m, Q l m → Q' l m) : WG o Q' := by
  unfold WG at h ⊢
  cases o with
  | none => exact h
  | some p => exact i _ _ h
/-! ## comprehensions with a test -/
theorem lc_fL {α : Type} {f gg : α → PV} {p : α → Bool} {l : SM.Loc} {m : MH} {g : STg} {vs : List Nat} {Q : PV → MH → Prop} {E : EX} {se : SE} {te : SB} {be : SE}
    (h : WP (se l m) (fun x m1 => ∃ (n : Nat) (xs : List α), x = .ref n ∧ m1[n]? = some (.lst (xs.map f)) ∧ xs.length ≤ 10000 ∧
      (∀ x ∈ xs, ∀ m2, Gr m1 m2 → WG (g (f x) (wipeP l vs) m2) (fun l1 m' => WP (te l1 m') (fun b m3 => b = p x ∧ Gr m2 m3 ∧ (p x = true → WP (be l1 m3) (fun y m4 => y = gg x ∧ Gr m3 m4) NoE)) NoE)) ∧
      ∀ m2, Gr m1 m2 → m2[m1.length]? = some (.lst ((xs.filter p).map gg)) → Q (.ref m1.length) m2) NoE) : WP (sLc (iSeq se) g te be vs l m) Q E := by
  refine w_lcL (h.mono ?_)
  rintro _ m1 ⟨n, xs, rfl, hn, hl, hb, q⟩
  refine ⟨n, _, rfl, seq_of_lst hn, fun j acc m2 => acc = ((xs.take j).filter p).map gg ∧ Gr m1 m2, ⟨rfl, Gr.one⟩, ?_, ?_⟩
  · rintro j x acc m2 hx ha ⟨rfl, G⟩
    refine ⟨seq_of_lst (G.get _ _ hn), ?_⟩
    rw [List.getElem?_map] at hx
    cases es : xs[j]? with
    | none => rw [es] at hx; cases hx
    | some r =>
    rw [es] at hx
    cases hx
    have hj := (List.getElem?_eq_some_iff.mp es).1
    have et : xs.take (j + 1) = xs.take j ++ [r] := by rw [List.take_succ, es]; rfl
    have hl2 : ((xs.take j).filter p).length ≤ 10000 := Nat.le_trans (List.length_filter_le _ _) (by rw [List.length_take]; omega)
    refine (hb r (List.mem_of_getElem? es) m2 G).mono ?_
    intro l1 m' hw
    refine hw.mono ?_
    rintro _ m3 ⟨rfl, G3, hw⟩
    by_cases c : p r = true
    · rw [if_pos c]
      refine (hw c).mono ?_
      rintro _ m4 ⟨rfl, G4⟩
      exact ⟨(G3.trans G4).get _ _ ha, by rw [List.length_map]; omega, by rw [et, List.filter_append, List.map_append]; simp [c], (G.trans (G3.trans G4)).set (Nat.le_refl _)⟩
    · rw [if_neg c]
      exact ⟨G3.get _ _ ha, by rw [et, List.filter_append]; simp [c], G.trans G3⟩
  · rintro acc m2 ha ⟨rfl, G⟩
    rw [List.length_map, List.take_length] at ha
    exact ⟨seq_of_lst (G.get _ _ hn), q m2 G ha⟩
theorem lc_fT {α : Type} {f gg : α → PV} {p : α → Bool} {l : SM.Loc} {m : MH} {g : STg} {vs : List Nat} {Q : PV → MH → Prop} {E : EX} {se : SE} {te : SB} {be : SE}
    (h : WP (se l m) (fun x m1 => ∃ (xs : List α), x = .tup (xs.map f) ∧ xs.length ≤ 10000 ∧
      (∀ x ∈ xs, ∀ m2, Gr m1 m2 → WG (g (f x) (wipeP l vs) m2) (fun l1 m' => WP (te l1 m') (fun b m3 => b = p x ∧ Gr m2 m3 ∧ (p x = true → WP (be l1 m3) (fun y m4 => y = gg x ∧ Gr m3 m4) NoE)) NoE)) ∧
      ∀ m2, Gr m1 m2 → m2[m1.length]? = some (.lst ((xs.filter p).map gg)) → Q (.ref m1.length) m2) NoE) : WP (sLc (iSeq se) g te be vs l m) Q E := by
  refine w_lcT (h.mono ?_)
  rintro _ m1 ⟨xs, rfl, hl, hb, q⟩
  refine ⟨_, rfl, fun j acc m2 => acc = ((xs.take j).filter p).map gg ∧ Gr m1 m2, ⟨rfl, Gr.one⟩, ?_, ?_⟩
  · rintro j x acc m2 hx ha ⟨rfl, G⟩
    rw [List.getElem?_map] at hx
    cases es : xs[j]? with
    | none => rw [es] at hx; cases hx
    | some r =>
    rw [es] at hx
    cases hx
    have hj := (List.getElem?_eq_some_iff.mp es).1
    have et : xs.take (j + 1) = xs.take j ++ [r] := by rw [List.take_succ, es]; rfl
    have hl2 : ((xs.take j).filter p).length ≤ 10000 := Nat.le_trans (List.length_filter_le _ _) (by rw [List.length_take]; omega)
    refine (hb r (List.mem_of_getElem? es) m2 G).mono ?_
    intro l1 m' hw
    refine hw.mono ?_
    rintro _ m3 ⟨rfl, G3, hw⟩
    by_cases c : p r = true
    · rw [if_pos c]
      refine (hw c).mono ?_
      rintro _ m4 ⟨rfl, G4⟩
      exact ⟨(G3.trans G4).get _ _ ha, by rw [List.length_map]; omega, by rw [et, List.filter_append, List.map_append]; simp [c], (G.trans (G3.trans G4)).set (Nat.le_refl _)⟩
    · rw [if_neg c]
      exact ⟨G3.get _ _ ha, by rw [et, List.filter_append]; simp [c], G.trans G3⟩
  · rintro acc m2 ha ⟨rfl, G⟩
    rw [List.length_map, List.take_length] at ha
    exact q m2 G ha
theorem filter_tt {α : Type} {xs : List α} : (xs.filter fun _ => true) = xs := List.filter_eq_self.mpr fun _ _ => rfl
/-! ## integers to the base 128 -/
theorem no_mem1 {α : Type} {p : α → Prop} : ∀ c ∈ ([] : List α), p c := fun _ h => by cases h
inductive Nb : Int → List Int → Prop
  | last {n : Int} (h0 : 0 ≤ n) (h : n < 128) : Nb n [n]
  | more {n : Int} {ds : List Int} (h : 128 ≤ n) (r : Nb (n / 128) ds) : Nb n ((n % 128 + 128) :: ds)
theorem Nb.uniq {n : Int} {ds : List Int} (h : Nb n ds) : ∀ {ds' : List Int}, Nb n ds' → ds = ds' := by
  induction h with
  | last h0 h =>
    intro ds' h'
    cases h' with
    | last _ _ => rfl
    | more h2 _ => omega
  | more h r ih =>
    intro ds' h'
    cases h' with
    | last _ h2 => omega
    | more _ r' => rw [ih r']
theorem Nb.form {n : Int} {ds : List Int} (h : Nb n ds) : ∃ pre z, ds = pre ++ [z] ∧ (∀ d ∈ pre, 128 ≤ d ∧ d < 256) ∧ 0 ≤ z ∧ z < 128 := by
  induction h with
  | last h0 h => exact ⟨[], _, rfl, no_mem1, h0, h⟩
  | more h r ih =>
    obtain ⟨pre, z, rfl, hp, h0, h1⟩ := ih
    refine ⟨_ :: pre, z, rfl, fun d hd => ?_, h0, h1⟩
    rcases List.mem_cons.mp hd with rfl | hd
    · omega
    · exact hp d hd
theorem Nb.nn {n : Int} {ds : List Int} (h : Nb n ds) : 0 ≤ n := by
  cases h with
  | last h0 _ => exact h0
  | more h _ => omega
theorem Nb.by {n : Int} {ds : List Int} (h : Nb n ds) : ∀ d ∈ ds, 0 ≤ d ∧ d < 256 := by
  obtain ⟨pre, z, rfl, hp, h0, h1⟩ := h.form
  intro d hd
  rcases List.mem_append.mp hd with hd | hd
  · have := hp d hd; omega
  · rw [List.mem_singleton.mp hd]; omega
/-- what is read -/
def rdL : Bool → Int → Int → List Int → Option (Int × Nat)
  | _, _, _, [] => none
  | f, num, w, d :: r => if d < 128 then (if d = 0 ∧ f = false then none else some (num + d * w, 1)) else (rdL false (num + (d - 128) * w) (w * 128) r).map fun p => (p.1, p.2 + 1)
theorem rdL_cons {f : Bool} {num w d : Int} {r : List Int} : rdL f num w (d :: r) = if d < 128 then (if d = 0 ∧ f = false then none else some (num + d * w, 1)) else (rdL false (num + (d - 128) * w) (w * 128) r).map fun p => (p.1, p.2 + 1) := rfl
theorem Nb.read {n : Int} {ds : List Int} (h : Nb n ds) : ∀ (f : Bool) (num w : Int) (rest : List Int), (f = true ∨ 0 < n) → rdL f num w (ds ++ rest) = some (num + n * w, ds.length) := by
  induction h with
  | last h0 h =>
    intro f num w rest hf
    rw [List.cons_append, rdL_cons, if_pos h, if_neg]
    · rfl
    · rintro ⟨h1, h2⟩
      rcases hf with hf | hf
      · rw [hf] at h2; cases h2
      · omega
  | @more n ds h r ih =>
    intro f num w rest hf
    rw [List.cons_append, rdL_cons, if_neg (by omega), ih false _ _ rest (.inr (by omega))]
    have e := Int.mul_ediv_add_emod n 128
    show some (num + (n % 128 + 128 - 128) * w + n / 128 * (w * 128), ds.length + 1) = some (num + n * w, ds.length + 1)
    congr 2
    have e2 : n * w = (128 * (n / 128) + n % 128) * w := by rw [e]
    rw [e2]
    grind
theorem hi_none : ∀ {pre rest : List Int}, (∀ d ∈ pre, 128 ≤ d) → (∀ f num w, rdL f num w rest = none) → ∀ f num w, rdL f num w (pre ++ rest) = none
  | [], rest, _, h, f, num, w => h f num w
  | d :: pre, rest, hp, h, f, num, w => by
    have := hp d List.mem_cons_self
    rw [List.cons_append, rdL_cons, if_neg (by omega), hi_none (fun x hx => hp x (List.mem_cons_of_mem _ hx)) h]
    rfl
theorem Nb.cut {n : Int} {ds : List Int} (h : Nb n ds) {k : Nat} (hk : k < ds.length) (f : Bool) (num w : Int) : rdL f num w (ds.take k) = none := by
  obtain ⟨pre, z, rfl, hp, h0, h1⟩ := h.form
  rw [List.length_append] at hk
  have hk : k ≤ pre.length := by simp at hk; omega
  rw [List.take_append_of_le_length hk]
  have := hi_none (pre := pre.take k) (rest := []) (fun d hd => (hp d (List.mem_of_mem_take hd)).1) (fun _ _ _ => rfl) f num w
  rwa [List.append_nil] at this
theorem Nb.zero {n z : Int} {pre : List Int} (h : Nb n (pre ++ [z])) (f : Bool) (num w : Int) : rdL f num w (pre ++ [z + 128, 0]) = none := by
  obtain ⟨pre', z', e, hp, h0, h1⟩ := h.form
  obtain ⟨rfl, e2⟩ := List.append_inj' e rfl
  cases e2
  refine hi_none (fun d hd => (hp d hd).1) (fun f num w => ?_) f num w
  show (if _ then _ else _) = _
  rw [if_neg (by omega)]
  rfl
/-! ### the defs -/
theorem pix {m : MH} {n : Nat} {ds : List Int} {i d : Int} (h : m[n]? = some (.lst (ds.map .int))) (e : atI (ds.map PV.int) i = some (.int d)) : ixv (.ref n) (.int i) m = some (.int d, m) := by rw [ix_r (seq_of_lst h), e]; rfl
theorem numbytes_ok {m : MH} {n : Int} (h0 : 0 ≤ n) (h1 : n < 128 ^ 21) : WP (f_number_bytes [.int n] m) (fun x m' => ∃ (k : Nat) (ds : List Int), x = .ref k ∧ m'[k]? = some (.lst (ds.map .int)) ∧ Nb n ds ∧ ds.length ≤ 21 ∧ m.length ≤ k ∧ Gr m m') NoE := by
  unfold f_number_bytes b_number_bytes
  try simp -dsimp only [at0, at1, at2, at3, at4, at5, at6, wp_fn, s_nil, s_brk, s_cnt, s_expr, s_ret, s_retN, s_if, s_asn, s_par, s_asg, g_nm, g_nil, g_cons, g_tupT, g_subW, w_v0, w_vS, w_c, w_op, w_un, w_anil, w_acons, w_tup, w_lst, w_call, w_callU, w_isi, w_meth, w_tru, w_bool, w_notS, w_andS, w_orS, w_ifx, w_andV, w_orV, w_notV, w_chain, wp_ok, wp_bad, wp_some, wp_none, wp_liftif, wp_if, asB_b, wp_noex, add_ii, sub_ii, mul_ii, fdiv_ii, mod_ii, pow_ii, neg_i, cmp_ii, lt_ii, le_ii, gt_ii, ge_ii, le_cc, muls_ii, muls_si, ins_cs, iadd_ii, isub_ii, w_onone, w_osome, w_sl, sl_s, sl_t, s_aug, eq_ss, len_s, ix_s, add_ss, str_s, tuple_t, list_t, is_n, not_n, non_n, non_i, non_b, non_s, non_t, non_r, abs_i, max_ii, min_ii, int_i, int_b, gcd_ii, len_t, ix_t, eq_v, ne_v, eq_ii, eq_bb, eq_nn, eq_in, eq_ni, iv_n_list, iv_n_tuple, iv_n_bool, iv_n_str, iv_n_int, okt_n, iv_b_list, iv_b_tuple, iv_b_bool, iv_b_str, iv_b_int, okt_b, iv_i_list, iv_i_tuple, iv_i_bool, iv_i_str, iv_i_int, okt_i, iv_s_list, iv_s_tuple, iv_s_bool, iv_s_str, iv_s_int, okt_s, iv_t_list, iv_t_tuple, iv_t_bool, iv_t_str, iv_t_int, okt_t, iv_r_list, iv_r_tuple, iv_r_bool, iv_r_str, iv_r_int, tru_b, tru_i, tru_n, tru_t, Option.map_some, Option.map_none, List.map_cons, List.map_nil, List.length_cons, List.length_nil, List.set_cons_zero, List.set_cons_succ, List.cons_append, List.nil_append, List.replicate, Nat.reduceAdd, Nat.reduceSub, Nat.reduceLeDiff, true_and, and_true, decide_eq_true_eq, reduceIte, Bool.false_eq_true, Bool.not_true, Bool.not_false, decide_true, decide_false]
  rw [s_seq]
  try simp -dsimp only [at0, at1, at2, at3, at4, at5, at6, wp_fn, s_nil, s_brk, s_cnt, s_expr, s_ret, s_retN, s_if, s_asn, s_par, s_asg, g_nm, g_nil, g_cons, g_tupT, g_subW, w_v0, w_vS, w_c, w_op, w_un, w_anil, w_acons, w_tup, w_lst, w_call, w_callU, w_isi, w_meth, w_tru, w_bool, w_notS, w_andS, w_orS, w_ifx, w_andV, w_orV, w_notV, w_chain, wp_ok, wp_bad, wp_some, wp_none, wp_liftif, wp_if, asB_b, wp_noex, add_ii, sub_ii, mul_ii, fdiv_ii, mod_ii, pow_ii, neg_i, cmp_ii, lt_ii, le_ii, gt_ii, ge_ii, le_cc, muls_ii, muls_si, ins_cs, iadd_ii, isub_ii, w_onone, w_osome, w_sl, sl_s, sl_t, s_aug, eq_ss, len_s, ix_s, add_ss, str_s, tuple_t, list_t, is_n, not_n, non_n, non_i, non_b, non_s, non_t, non_r, abs_i, max_ii, min_ii, int_i, int_b, gcd_ii, len_t, ix_t, eq_v, ne_v, eq_ii, eq_bb, eq_nn, eq_in, eq_ni, iv_n_list, iv_n_tuple, iv_n_bool, iv_n_str, iv_n_int, okt_n, iv_b_list, iv_b_tuple, iv_b_bool, iv_b_str, iv_b_int, okt_b, iv_i_list, iv_i_tuple, iv_i_bool, iv_i_str, iv_i_int, okt_i, iv_s_list, iv_s_tuple, iv_s_bool, iv_s_str, iv_s_int, okt_s, iv_t_list, iv_t_tuple, iv_t_bool, iv_t_str, iv_t_int, okt_t, iv_r_list, iv_r_tuple, iv_r_bool, iv_r_str, iv_r_int, tru_b, tru_i, tru_n, tru_t, Option.map_some, Option.map_none, List.map_cons, List.map_nil, List.length_cons, List.length_nil, List.set_cons_zero, List.set_cons_succ, List.cons_append, List.nil_append, List.replicate, Nat.reduceAdd, Nat.reduceSub, Nat.reduceLeDiff, true_and, and_true, decide_eq_true_eq, reduceIte, Bool.false_eq_true, Bool.not_true, Bool.not_false, decide_true, decide_false]
  refine s_cut (mid := fun l m' => ∃ (v : Int) (pre : List Int), l = [some (.int v), some (.ref m.length)] ∧ m'[m.length]? = some (.lst (pre.map .int)) ∧ 0 ≤ v ∧ v < 128 ∧ (∀ ds, Nb v ds → Nb n (pre ++ ds)) ∧ pre.length ≤ 20 ∧ Gr m m') ?_ ?_
  · refine s_while 20 (by decide) (fun z l m' => ∃ (v : Int) (pre : List Int), l = [some (.int v), some (.ref m.length)] ∧ m'[m.length]? = some (.lst (pre.map .int)) ∧ 0 ≤ v ∧ v < 128 ^ (z + 1) ∧ (∀ ds, Nb v ds → Nb n (pre ++ ds)) ∧ pre.length + z = 20 ∧ Gr m m') ⟨n, [], rfl, get_new, h0, h1, fun _ h => h, rfl, Gr.one⟩ ?_
    rintro z l m' ⟨v, pre, rfl, P, v0, v1, hn, hl, G⟩
    try simp -dsimp only [at0, at1, at2, at3, at4, at5, at6, wp_fn, s_nil, s_brk, s_cnt, s_expr, s_ret, s_retN, s_if, s_asn, s_par, s_asg, g_nm, g_nil, g_cons, g_tupT, g_subW, w_v0, w_vS, w_c, w_op, w_un, w_anil, w_acons, w_tup, w_lst, w_call, w_callU, w_isi, w_meth, w_tru, w_bool, w_notS, w_andS, w_orS, w_ifx, w_andV, w_orV, w_notV, w_chain, wp_ok, wp_bad, wp_some, wp_none, wp_liftif, wp_if, asB_b, wp_noex, add_ii, sub_ii, mul_ii, fdiv_ii, mod_ii, pow_ii, neg_i, cmp_ii, lt_ii, le_ii, gt_ii, ge_ii, le_cc, muls_ii, muls_si, ins_cs, iadd_ii, isub_ii, w_onone, w_osome, w_sl, sl_s, sl_t, s_aug, eq_ss, len_s, ix_s, add_ss, str_s, tuple_t, list_t, is_n, not_n, non_n, non_i, non_b, non_s, non_t, non_r, abs_i, max_ii, min_ii, int_i, int_b, gcd_ii, len_t, ix_t, eq_v, ne_v, eq_ii, eq_bb, eq_nn, eq_in, eq_ni, iv_n_list, iv_n_tuple, iv_n_bool, iv_n_str, iv_n_int, okt_n, iv_b_list, iv_b_tuple, iv_b_bool, iv_b_str, iv_b_int, okt_b, iv_i_list, iv_i_tuple, iv_i_bool, iv_i_str, iv_i_int, okt_i, iv_s_list, iv_s_tuple, iv_s_bool, iv_s_str, iv_s_int, okt_s, iv_t_list, iv_t_tuple, iv_t_bool, iv_t_str, iv_t_int, okt_t, iv_r_list, iv_r_tuple, iv_r_bool, iv_r_str, iv_r_int, tru_b, tru_i, tru_n, tru_t, Option.map_some, Option.map_none, List.map_cons, List.map_nil, List.length_cons, List.length_nil, List.set_cons_zero, List.set_cons_succ, List.cons_append, List.nil_append, List.replicate, Nat.reduceAdd, Nat.reduceSub, Nat.reduceLeDiff, true_and, and_true, decide_eq_true_eq, reduceIte, Bool.false_eq_true, Bool.not_true, Bool.not_false, decide_true, decide_false]
    by_cases c : v ≥ 128
    · rw [if_pos c]
      have hz : 0 < z := by
        rcases Nat.eq_zero_or_pos z with h | h
        · subst h
          have : (128 : Int) ^ (0 + 1) = 128 := by decide
          omega
        · exact h
      refine ⟨hz, ?_⟩
      unfold number_bytes_l1
      try simp -dsimp only [at0, at1, at2, at3, at4, at5, at6, wp_fn, s_nil, s_brk, s_cnt, s_expr, s_ret, s_retN, s_if, s_asn, s_par, s_asg, g_nm, g_nil, g_cons, g_tupT, g_subW, w_v0, w_vS, w_c, w_op, w_un, w_anil, w_acons, w_tup, w_lst, w_call, w_callU, w_isi, w_meth, w_tru, w_bool, w_notS, w_andS, w_orS, w_ifx, w_andV, w_orV, w_notV, w_chain, wp_ok, wp_bad, wp_some, wp_none, wp_liftif, wp_if, asB_b, wp_noex, add_ii, sub_ii, mul_ii, fdiv_ii, mod_ii, pow_ii, neg_i, cmp_ii, lt_ii, le_ii, gt_ii, ge_ii, le_cc, muls_ii, muls_si, ins_cs, iadd_ii, isub_ii, w_onone, w_osome, w_sl, sl_s, sl_t, s_aug, eq_ss, len_s, ix_s, add_ss, str_s, tuple_t, list_t, is_n, not_n, non_n, non_i, non_b, non_s, non_t, non_r, abs_i, max_ii, min_ii, int_i, int_b, gcd_ii, len_t, ix_t, eq_v, ne_v, eq_ii, eq_bb, eq_nn, eq_in, eq_ni, iv_n_list, iv_n_tuple, iv_n_bool, iv_n_str, iv_n_int, okt_n, iv_b_list, iv_b_tuple, iv_b_bool, iv_b_str, iv_b_int, okt_b, iv_i_list, iv_i_tuple, iv_i_bool, iv_i_str, iv_i_int, okt_i, iv_s_list, iv_s_tuple, iv_s_bool, iv_s_str, iv_s_int, okt_s, iv_t_list, iv_t_tuple, iv_t_bool, iv_t_str, iv_t_int, okt_t, iv_r_list, iv_r_tuple, iv_r_bool, iv_r_str, iv_r_int, tru_b, tru_i, tru_n, tru_t, Option.map_some, Option.map_none, List.map_cons, List.map_nil, List.length_cons, List.length_nil, List.set_cons_zero, List.set_cons_succ, List.cons_append, List.nil_append, List.replicate, Nat.reduceAdd, Nat.reduceSub, Nat.reduceLeDiff, true_and, and_true, decide_eq_true_eq, reduceIte, Bool.false_eq_true, Bool.not_true, Bool.not_false, decide_true, decide_false]
      rw [s_seq]
      try simp -dsimp only [at0, at1, at2, at3, at4, at5, at6, wp_fn, s_nil, s_brk, s_cnt, s_expr, s_ret, s_retN, s_if, s_asn, s_par, s_asg, g_nm, g_nil, g_cons, g_tupT, g_subW, w_v0, w_vS, w_c, w_op, w_un, w_anil, w_acons, w_tup, w_lst, w_call, w_callU, w_isi, w_meth, w_tru, w_bool, w_notS, w_andS, w_orS, w_ifx, w_andV, w_orV, w_notV, w_chain, wp_ok, wp_bad, wp_some, wp_none, wp_liftif, wp_if, asB_b, wp_noex, add_ii, sub_ii, mul_ii, fdiv_ii, mod_ii, pow_ii, neg_i, cmp_ii, lt_ii, le_ii, gt_ii, ge_ii, le_cc, muls_ii, muls_si, ins_cs, iadd_ii, isub_ii, w_onone, w_osome, w_sl, sl_s, sl_t, s_aug, eq_ss, len_s, ix_s, add_ss, str_s, tuple_t, list_t, is_n, not_n, non_n, non_i, non_b, non_s, non_t, non_r, abs_i, max_ii, min_ii, int_i, int_b, gcd_ii, len_t, ix_t, eq_v, ne_v, eq_ii, eq_bb, eq_nn, eq_in, eq_ni, iv_n_list, iv_n_tuple, iv_n_bool, iv_n_str, iv_n_int, okt_n, iv_b_list, iv_b_tuple, iv_b_bool, iv_b_str, iv_b_int, okt_b, iv_i_list, iv_i_tuple, iv_i_bool, iv_i_str, iv_i_int, okt_i, iv_s_list, iv_s_tuple, iv_s_bool, iv_s_str, iv_s_int, okt_s, iv_t_list, iv_t_tuple, iv_t_bool, iv_t_str, iv_t_int, okt_t, iv_r_list, iv_r_tuple, iv_r_bool, iv_r_str, iv_r_int, tru_b, tru_i, tru_n, tru_t, Option.map_some, Option.map_none, List.map_cons, List.map_nil, List.length_cons, List.length_nil, List.set_cons_zero, List.set_cons_succ, List.cons_append, List.nil_append, List.replicate, Nat.reduceAdd, Nat.reduceSub, Nat.reduceLeDiff, true_and, and_true, decide_eq_true_eq, reduceIte, Bool.false_eq_true, Bool.not_true, Bool.not_false, decide_true, decide_false]
      refine ⟨isLst_r P, ?_⟩
      rw [if_pos (by decide), fmod_pos (by decide)]
      try simp -dsimp only [at0, at1, at2, at3, at4, at5, at6, wp_fn, s_nil, s_brk, s_cnt, s_expr, s_ret, s_retN, s_if, s_asn, s_par, s_asg, g_nm, g_nil, g_cons, g_tupT, g_subW, w_v0, w_vS, w_c, w_op, w_un, w_anil, w_acons, w_tup, w_lst, w_call, w_callU, w_isi, w_meth, w_tru, w_bool, w_notS, w_andS, w_orS, w_ifx, w_andV, w_orV, w_notV, w_chain, wp_ok, wp_bad, wp_some, wp_none, wp_liftif, wp_if, asB_b, wp_noex, add_ii, sub_ii, mul_ii, fdiv_ii, mod_ii, pow_ii, neg_i, cmp_ii, lt_ii, le_ii, gt_ii, ge_ii, le_cc, muls_ii, muls_si, ins_cs, iadd_ii, isub_ii, w_onone, w_osome, w_sl, sl_s, sl_t, s_aug, eq_ss, len_s, ix_s, add_ss, str_s, tuple_t, list_t, is_n, not_n, non_n, non_i, non_b, non_s, non_t, non_r, abs_i, max_ii, min_ii, int_i, int_b, gcd_ii, len_t, ix_t, eq_v, ne_v, eq_ii, eq_bb, eq_nn, eq_in, eq_ni, iv_n_list, iv_n_tuple, iv_n_bool, iv_n_str, iv_n_int, okt_n, iv_b_list, iv_b_tuple, iv_b_bool, iv_b_str, iv_b_int, okt_b, iv_i_list, iv_i_tuple, iv_i_bool, iv_i_str, iv_i_int, okt_i, iv_s_list, iv_s_tuple, iv_s_bool, iv_s_str, iv_s_int, okt_s, iv_t_list, iv_t_tuple, iv_t_bool, iv_t_str, iv_t_int, okt_t, iv_r_list, iv_r_tuple, iv_r_bool, iv_r_str, iv_r_int, tru_b, tru_i, tru_n, tru_t, Option.map_some, Option.map_none, List.map_cons, List.map_nil, List.length_cons, List.length_nil, List.set_cons_zero, List.set_cons_succ, List.cons_append, List.nil_append, List.replicate, Nat.reduceAdd, Nat.reduceSub, Nat.reduceLeDiff, true_and, and_true, decide_eq_true_eq, reduceIte, Bool.false_eq_true, Bool.not_true, Bool.not_false, decide_true, decide_false]
      rw [append_r P (by rw [List.length_map]; omega)]
      try simp -dsimp only [at0, at1, at2, at3, at4, at5, at6, wp_fn, s_nil, s_brk, s_cnt, s_expr, s_ret, s_retN, s_if, s_asn, s_par, s_asg, g_nm, g_nil, g_cons, g_tupT, g_subW, w_v0, w_vS, w_c, w_op, w_un, w_anil, w_acons, w_tup, w_lst, w_call, w_callU, w_isi, w_meth, w_tru, w_bool, w_notS, w_andS, w_orS, w_ifx, w_andV, w_orV, w_notV, w_chain, wp_ok, wp_bad, wp_some, wp_none, wp_liftif, wp_if, asB_b, wp_noex, add_ii, sub_ii, mul_ii, fdiv_ii, mod_ii, pow_ii, neg_i, cmp_ii, lt_ii, le_ii, gt_ii, ge_ii, le_cc, muls_ii, muls_si, ins_cs, iadd_ii, isub_ii, w_onone, w_osome, w_sl, sl_s, sl_t, s_aug, eq_ss, len_s, ix_s, add_ss, str_s, tuple_t, list_t, is_n, not_n, non_n, non_i, non_b, non_s, non_t, non_r, abs_i, max_ii, min_ii, int_i, int_b, gcd_ii, len_t, ix_t, eq_v, ne_v, eq_ii, eq_bb, eq_nn, eq_in, eq_ni, iv_n_list, iv_n_tuple, iv_n_bool, iv_n_str, iv_n_int, okt_n, iv_b_list, iv_b_tuple, iv_b_bool, iv_b_str, iv_b_int, okt_b, iv_i_list, iv_i_tuple, iv_i_bool, iv_i_str, iv_i_int, okt_i, iv_s_list, iv_s_tuple, iv_s_bool, iv_s_str, iv_s_int, okt_s, iv_t_list, iv_t_tuple, iv_t_bool, iv_t_str, iv_t_int, okt_t, iv_r_list, iv_r_tuple, iv_r_bool, iv_r_str, iv_r_int, tru_b, tru_i, tru_n, tru_t, Option.map_some, Option.map_none, List.map_cons, List.map_nil, List.length_cons, List.length_nil, List.set_cons_zero, List.set_cons_succ, List.cons_append, List.nil_append, List.replicate, Nat.reduceAdd, Nat.reduceSub, Nat.reduceLeDiff, true_and, and_true, decide_eq_true_eq, reduceIte, Bool.false_eq_true, Bool.not_true, Bool.not_false, decide_true, decide_false]
      have e1 : ifdivv (.int v) (.int 128) (m'.set m.length (.lst (pre.map .int ++ [.int (v % 128 + 128)]))) = some (.int (v / 128), m'.set m.length (.lst (pre.map .int ++ [.int (v % 128 + 128)]))) := by
        unfold ifdivv
        dsimp only
        rw [if_pos (by decide)]
      rw [e1]
      try simp -dsimp only [at0, at1, at2, at3, at4, at5, at6, wp_fn, s_nil, s_brk, s_cnt, s_expr, s_ret, s_retN, s_if, s_asn, s_par, s_asg, g_nm, g_nil, g_cons, g_tupT, g_subW, w_v0, w_vS, w_c, w_op, w_un, w_anil, w_acons, w_tup, w_lst, w_call, w_callU, w_isi, w_meth, w_tru, w_bool, w_notS, w_andS, w_orS, w_ifx, w_andV, w_orV, w_notV, w_chain, wp_ok, wp_bad, wp_some, wp_none, wp_liftif, wp_if, asB_b, wp_noex, add_ii, sub_ii, mul_ii, fdiv_ii, mod_ii, pow_ii, neg_i, cmp_ii, lt_ii, le_ii, gt_ii, ge_ii, le_cc, muls_ii, muls_si, ins_cs, iadd_ii, isub_ii, w_onone, w_osome, w_sl, sl_s, sl_t, s_aug, eq_ss, len_s, ix_s, add_ss, str_s, tuple_t, list_t, is_n, not_n, non_n, non_i, non_b, non_s, non_t, non_r, abs_i, max_ii, min_ii, int_i, int_b, gcd_ii, len_t, ix_t, eq_v, ne_v, eq_ii, eq_bb, eq_nn, eq_in, eq_ni, iv_n_list, iv_n_tuple, iv_n_bool, iv_n_str, iv_n_int, okt_n, iv_b_list, iv_b_tuple, iv_b_bool, iv_b_str, iv_b_int, okt_b, iv_i_list, iv_i_tuple, iv_i_bool, iv_i_str, iv_i_int, okt_i, iv_s_list, iv_s_tuple, iv_s_bool, iv_s_str, iv_s_int, okt_s, iv_t_list, iv_t_tuple, iv_t_bool, iv_t_str, iv_t_int, okt_t, iv_r_list, iv_r_tuple, iv_r_bool, iv_r_str, iv_r_int, tru_b, tru_i, tru_n, tru_t, Option.map_some, Option.map_none, List.map_cons, List.map_nil, List.length_cons, List.length_nil, List.set_cons_zero, List.set_cons_succ, List.cons_append, List.nil_append, List.replicate, Nat.reduceAdd, Nat.reduceSub, Nat.reduceLeDiff, true_and, and_true, decide_eq_true_eq, reduceIte, Bool.false_eq_true, Bool.not_true, Bool.not_false, decide_true, decide_false]
      refine ⟨v / 128, pre ++ [v % 128 + 128], rfl, (get_set_eq P).trans ?_, by omega, ?_, fun ds hd => ?_, by simp; omega, G.set (Nat.le_refl _)⟩
      · rw [List.map_append]; rfl
      · have e2 : z - 1 + 1 = z := by omega
        rw [e2]
        rw [Int.pow_succ] at v1
        exact Int.ediv_lt_of_lt_mul (by decide) v1
      · rw [List.append_assoc]
        exact hn _ (.more (by omega) hd)
    · rw [if_neg c]
      exact ⟨v, pre, rfl, P, v0, by omega, hn, by omega, G⟩
  rintro _ m' ⟨v, pre, rfl, P, v0, v1, hn, hl, G⟩
  try simp -dsimp only [at0, at1, at2, at3, at4, at5, at6, wp_fn, s_nil, s_brk, s_cnt, s_expr, s_ret, s_retN, s_if, s_asn, s_par, s_asg, g_nm, g_nil, g_cons, g_tupT, g_subW, w_v0, w_vS, w_c, w_op, w_un, w_anil, w_acons, w_tup, w_lst, w_call, w_callU, w_isi, w_meth, w_tru, w_bool, w_notS, w_andS, w_orS, w_ifx, w_andV, w_orV, w_notV, w_chain, wp_ok, wp_bad, wp_some, wp_none, wp_liftif, wp_if, asB_b, wp_noex, add_ii, sub_ii, mul_ii, fdiv_ii, mod_ii, pow_ii, neg_i, cmp_ii, lt_ii, le_ii, gt_ii, ge_ii, le_cc, muls_ii, muls_si, ins_cs, iadd_ii, isub_ii, w_onone, w_osome, w_sl, sl_s, sl_t, s_aug, eq_ss, len_s, ix_s, add_ss, str_s, tuple_t, list_t, is_n, not_n, non_n, non_i, non_b, non_s, non_t, non_r, abs_i, max_ii, min_ii, int_i, int_b, gcd_ii, len_t, ix_t, eq_v, ne_v, eq_ii, eq_bb, eq_nn, eq_in, eq_ni, iv_n_list, iv_n_tuple, iv_n_bool, iv_n_str, iv_n_int, okt_n, iv_b_list, iv_b_tuple, iv_b_bool, iv_b_str, iv_b_int, okt_b, iv_i_list, iv_i_tuple, iv_i_bool, iv_i_str, iv_i_int, okt_i, iv_s_list, iv_s_tuple, iv_s_bool, iv_s_str, iv_s_int, okt_s, iv_t_list, iv_t_tuple, iv_t_bool, iv_t_str, iv_t_int, okt_t, iv_r_list, iv_r_tuple, iv_r_bool, iv_r_str, iv_r_int, tru_b, tru_i, tru_n, tru_t, Option.map_some, Option.map_none, List.map_cons, List.map_nil, List.length_cons, List.length_nil, List.set_cons_zero, List.set_cons_succ, List.cons_append, List.nil_append, List.replicate, Nat.reduceAdd, Nat.reduceSub, Nat.reduceLeDiff, true_and, and_true, decide_eq_true_eq, reduceIte, Bool.false_eq_true, Bool.not_true, Bool.not_false, decide_true, decide_false]
  rw [add_rr (lst_of (get_old P)) (lst_of get_new), if_pos (by simp; omega)]
  try simp -dsimp only [at0, at1, at2, at3, at4, at5, at6, wp_fn, s_nil, s_brk, s_cnt, s_expr, s_ret, s_retN, s_if, s_asn, s_par, s_asg, g_nm, g_nil, g_cons, g_tupT, g_subW, w_v0, w_vS, w_c, w_op, w_un, w_anil, w_acons, w_tup, w_lst, w_call, w_callU, w_isi, w_meth, w_tru, w_bool, w_notS, w_andS, w_orS, w_ifx, w_andV, w_orV, w_notV, w_chain, wp_ok, wp_bad, wp_some, wp_none, wp_liftif, wp_if, asB_b, wp_noex, add_ii, sub_ii, mul_ii, fdiv_ii, mod_ii, pow_ii, neg_i, cmp_ii, lt_ii, le_ii, gt_ii, ge_ii, le_cc, muls_ii, muls_si, ins_cs, iadd_ii, isub_ii, w_onone, w_osome, w_sl, sl_s, sl_t, s_aug, eq_ss, len_s, ix_s, add_ss, str_s, tuple_t, list_t, is_n, not_n, non_n, non_i, non_b, non_s, non_t, non_r, abs_i, max_ii, min_ii, int_i, int_b, gcd_ii, len_t, ix_t, eq_v, ne_v, eq_ii, eq_bb, eq_nn, eq_in, eq_ni, iv_n_list, iv_n_tuple, iv_n_bool, iv_n_str, iv_n_int, okt_n, iv_b_list, iv_b_tuple, iv_b_bool, iv_b_str, iv_b_int, okt_b, iv_i_list, iv_i_tuple, iv_i_bool, iv_i_str, iv_i_int, okt_i, iv_s_list, iv_s_tuple, iv_s_bool, iv_s_str, iv_s_int, okt_s, iv_t_list, iv_t_tuple, iv_t_bool, iv_t_str, iv_t_int, okt_t, iv_r_list, iv_r_tuple, iv_r_bool, iv_r_str, iv_r_int, tru_b, tru_i, tru_n, tru_t, Option.map_some, Option.map_none, List.map_cons, List.map_nil, List.length_cons, List.length_nil, List.set_cons_zero, List.set_cons_succ, List.cons_append, List.nil_append, List.replicate, Nat.reduceAdd, Nat.reduceSub, Nat.reduceLeDiff, true_and, and_true, decide_eq_true_eq, reduceIte, Bool.false_eq_true, Bool.not_true, Bool.not_false, decide_true, decide_false]
  refine ⟨_, pre ++ [v], rfl, ?_, hn _ (.last v0 v1), by simp; omega, by have := G.len; simp; omega, (G.push _).push _⟩
  rw [get_new, List.map_append]
  rfl
theorem lnumber_ok {m : MH} {n : Int} (h0 : 0 ≤ n) (h1 : n < 128 ^ 21) : WP (f_law_number [.int n] m) (fun x m' => ∃ (k : Nat) (ds : List Int), x = .ref k ∧ m'[k]? = some (.lst (ds.map .int)) ∧ Nb n ds ∧ ds.length ≤ 21 ∧ m.length ≤ k ∧ Gr m m') NoE := by
  unfold f_law_number b_law_number
  try simp -dsimp only [at0, at1, at2, at3, at4, at5, at6, wp_fn, s_nil, s_brk, s_cnt, s_expr, s_ret, s_retN, s_if, s_asn, s_par, s_asg, g_nm, g_nil, g_cons, g_tupT, g_subW, w_v0, w_vS, w_c, w_op, w_un, w_anil, w_acons, w_tup, w_lst, w_call, w_callU, w_isi, w_meth, w_tru, w_bool, w_notS, w_andS, w_orS, w_ifx, w_andV, w_orV, w_notV, w_chain, wp_ok, wp_bad, wp_some, wp_none, wp_liftif, wp_if, asB_b, wp_noex, add_ii, sub_ii, mul_ii, fdiv_ii, mod_ii, pow_ii, neg_i, cmp_ii, lt_ii, le_ii, gt_ii, ge_ii, le_cc, muls_ii, muls_si, ins_cs, iadd_ii, isub_ii, w_onone, w_osome, w_sl, sl_s, sl_t, s_aug, eq_ss, len_s, ix_s, add_ss, str_s, tuple_t, list_t, is_n, not_n, non_n, non_i, non_b, non_s, non_t, non_r, abs_i, max_ii, min_ii, int_i, int_b, gcd_ii, len_t, ix_t, eq_v, ne_v, eq_ii, eq_bb, eq_nn, eq_in, eq_ni, iv_n_list, iv_n_tuple, iv_n_bool, iv_n_str, iv_n_int, okt_n, iv_b_list, iv_b_tuple, iv_b_bool, iv_b_str, iv_b_int, okt_b, iv_i_list, iv_i_tuple, iv_i_bool, iv_i_str, iv_i_int, okt_i, iv_s_list, iv_s_tuple, iv_s_bool, iv_s_str, iv_s_int, okt_s, iv_t_list, iv_t_tuple, iv_t_bool, iv_t_str, iv_t_int, okt_t, iv_r_list, iv_r_tuple, iv_r_bool, iv_r_str, iv_r_int, tru_b, tru_i, tru_n, tru_t, Option.map_some, Option.map_none, List.map_cons, List.map_nil, List.length_cons, List.length_nil, List.set_cons_zero, List.set_cons_succ, List.cons_append, List.nil_append, List.replicate, Nat.reduceAdd, Nat.reduceSub, Nat.reduceLeDiff, true_and, and_true, decide_eq_true_eq, reduceIte, Bool.false_eq_true, Bool.not_true, Bool.not_false, decide_true, decide_false]
  rw [s_seq]
  try simp -dsimp only [at0, at1, at2, at3, at4, at5, at6, wp_fn, s_nil, s_brk, s_cnt, s_expr, s_ret, s_retN, s_if, s_asn, s_par, s_asg, g_nm, g_nil, g_cons, g_tupT, g_subW, w_v0, w_vS, w_c, w_op, w_un, w_anil, w_acons, w_tup, w_lst, w_call, w_callU, w_isi, w_meth, w_tru, w_bool, w_notS, w_andS, w_orS, w_ifx, w_andV, w_orV, w_notV, w_chain, wp_ok, wp_bad, wp_some, wp_none, wp_liftif, wp_if, asB_b, wp_noex, add_ii, sub_ii, mul_ii, fdiv_ii, mod_ii, pow_ii, neg_i, cmp_ii, lt_ii, le_ii, gt_ii, ge_ii, le_cc, muls_ii, muls_si, ins_cs, iadd_ii, isub_ii, w_onone, w_osome, w_sl, sl_s, sl_t, s_aug, eq_ss, len_s, ix_s, add_ss, str_s, tuple_t, list_t, is_n, not_n, non_n, non_i, non_b, non_s, non_t, non_r, abs_i, max_ii, min_ii, int_i, int_b, gcd_ii, len_t, ix_t, eq_v, ne_v, eq_ii, eq_bb, eq_nn, eq_in, eq_ni, iv_n_list, iv_n_tuple, iv_n_bool, iv_n_str, iv_n_int, okt_n, iv_b_list, iv_b_tuple, iv_b_bool, iv_b_str, iv_b_int, okt_b, iv_i_list, iv_i_tuple, iv_i_bool, iv_i_str, iv_i_int, okt_i, iv_s_list, iv_s_tuple, iv_s_bool, iv_s_str, iv_s_int, okt_s, iv_t_list, iv_t_tuple, iv_t_bool, iv_t_str, iv_t_int, okt_t, iv_r_list, iv_r_tuple, iv_r_bool, iv_r_str, iv_r_int, tru_b, tru_i, tru_n, tru_t, Option.map_some, Option.map_none, List.map_cons, List.map_nil, List.length_cons, List.length_nil, List.set_cons_zero, List.set_cons_succ, List.cons_append, List.nil_append, List.replicate, Nat.reduceAdd, Nat.reduceSub, Nat.reduceLeDiff, true_and, and_true, decide_eq_true_eq, reduceIte, Bool.false_eq_true, Bool.not_true, Bool.not_false, decide_true, decide_false]
  rw [s_seq]
  refine s_for1 (j := 20) 20 rfl rfl (by decide) (by decide) (fun z l m' => ∃ (v : Int) (pre : List Int) (x2 : Option PV), l = [some (.int v), some (.ref m.length), x2] ∧ m'[m.length]? = some (.lst (pre.map .int)) ∧ 0 ≤ v ∧ v < 128 ^ (21 - z) ∧ (∀ ds, Nb v ds → Nb n (pre ++ ds)) ∧ pre.length ≤ z ∧ Gr m m') ⟨n, [], _, rfl, get_new, h0, h1, fun _ h => h, Nat.le_refl _, Gr.one⟩ ?_ ?_
  · rintro z l m' hz ⟨v, pre, x2, rfl, P, v0, v1, hn, hl, G⟩
    unfold law_number_l1
    try simp -dsimp only [at0, at1, at2, at3, at4, at5, at6, wp_fn, s_nil, s_brk, s_cnt, s_expr, s_ret, s_retN, s_if, s_asn, s_par, s_asg, g_nm, g_nil, g_cons, g_tupT, g_subW, w_v0, w_vS, w_c, w_op, w_un, w_anil, w_acons, w_tup, w_lst, w_call, w_callU, w_isi, w_meth, w_tru, w_bool, w_notS, w_andS, w_orS, w_ifx, w_andV, w_orV, w_notV, w_chain, wp_ok, wp_bad, wp_some, wp_none, wp_liftif, wp_if, asB_b, wp_noex, add_ii, sub_ii, mul_ii, fdiv_ii, mod_ii, pow_ii, neg_i, cmp_ii, lt_ii, le_ii, gt_ii, ge_ii, le_cc, muls_ii, muls_si, ins_cs, iadd_ii, isub_ii, w_onone, w_osome, w_sl, sl_s, sl_t, s_aug, eq_ss, len_s, ix_s, add_ss, str_s, tuple_t, list_t, is_n, not_n, non_n, non_i, non_b, non_s, non_t, non_r, abs_i, max_ii, min_ii, int_i, int_b, gcd_ii, len_t, ix_t, eq_v, ne_v, eq_ii, eq_bb, eq_nn, eq_in, eq_ni, iv_n_list, iv_n_tuple, iv_n_bool, iv_n_str, iv_n_int, okt_n, iv_b_list, iv_b_tuple, iv_b_bool, iv_b_str, iv_b_int, okt_b, iv_i_list, iv_i_tuple, iv_i_bool, iv_i_str, iv_i_int, okt_i, iv_s_list, iv_s_tuple, iv_s_bool, iv_s_str, iv_s_int, okt_s, iv_t_list, iv_t_tuple, iv_t_bool, iv_t_str, iv_t_int, okt_t, iv_r_list, iv_r_tuple, iv_r_bool, iv_r_str, iv_r_int, tru_b, tru_i, tru_n, tru_t, Option.map_some, Option.map_none, List.map_cons, List.map_nil, List.length_cons, List.length_nil, List.set_cons_zero, List.set_cons_succ, List.cons_append, List.nil_append, List.replicate, Nat.reduceAdd, Nat.reduceSub, Nat.reduceLeDiff, true_and, and_true, decide_eq_true_eq, reduceIte, Bool.false_eq_true, Bool.not_true, Bool.not_false, decide_true, decide_false]
    by_cases c : v ≥ 128
    · rw [if_pos c]
      try simp -dsimp only [at0, at1, at2, at3, at4, at5, at6, wp_fn, s_nil, s_brk, s_cnt, s_expr, s_ret, s_retN, s_if, s_asn, s_par, s_asg, g_nm, g_nil, g_cons, g_tupT, g_subW, w_v0, w_vS, w_c, w_op, w_un, w_anil, w_acons, w_tup, w_lst, w_call, w_callU, w_isi, w_meth, w_tru, w_bool, w_notS, w_andS, w_orS, w_ifx, w_andV, w_orV, w_notV, w_chain, wp_ok, wp_bad, wp_some, wp_none, wp_liftif, wp_if, asB_b, wp_noex, add_ii, sub_ii, mul_ii, fdiv_ii, mod_ii, pow_ii, neg_i, cmp_ii, lt_ii, le_ii, gt_ii, ge_ii, le_cc, muls_ii, muls_si, ins_cs, iadd_ii, isub_ii, w_onone, w_osome, w_sl, sl_s, sl_t, s_aug, eq_ss, len_s, ix_s, add_ss, str_s, tuple_t, list_t, is_n, not_n, non_n, non_i, non_b, non_s, non_t, non_r, abs_i, max_ii, min_ii, int_i, int_b, gcd_ii, len_t, ix_t, eq_v, ne_v, eq_ii, eq_bb, eq_nn, eq_in, eq_ni, iv_n_list, iv_n_tuple, iv_n_bool, iv_n_str, iv_n_int, okt_n, iv_b_list, iv_b_tuple, iv_b_bool, iv_b_str, iv_b_int, okt_b, iv_i_list, iv_i_tuple, iv_i_bool, iv_i_str, iv_i_int, okt_i, iv_s_list, iv_s_tuple, iv_s_bool, iv_s_str, iv_s_int, okt_s, iv_t_list, iv_t_tuple, iv_t_bool, iv_t_str, iv_t_int, okt_t, iv_r_list, iv_r_tuple, iv_r_bool, iv_r_str, iv_r_int, tru_b, tru_i, tru_n, tru_t, Option.map_some, Option.map_none, List.map_cons, List.map_nil, List.length_cons, List.length_nil, List.set_cons_zero, List.set_cons_succ, List.cons_append, List.nil_append, List.replicate, Nat.reduceAdd, Nat.reduceSub, Nat.reduceLeDiff, true_and, and_true, decide_eq_true_eq, reduceIte, Bool.false_eq_true, Bool.not_true, Bool.not_false, decide_true, decide_false]
      rw [s_seq]
      try simp -dsimp only [at0, at1, at2, at3, at4, at5, at6, wp_fn, s_nil, s_brk, s_cnt, s_expr, s_ret, s_retN, s_if, s_asn, s_par, s_asg, g_nm, g_nil, g_cons, g_tupT, g_subW, w_v0, w_vS, w_c, w_op, w_un, w_anil, w_acons, w_tup, w_lst, w_call, w_callU, w_isi, w_meth, w_tru, w_bool, w_notS, w_andS, w_orS, w_ifx, w_andV, w_orV, w_notV, w_chain, wp_ok, wp_bad, wp_some, wp_none, wp_liftif, wp_if, asB_b, wp_noex, add_ii, sub_ii, mul_ii, fdiv_ii, mod_ii, pow_ii, neg_i, cmp_ii, lt_ii, le_ii, gt_ii, ge_ii, le_cc, muls_ii, muls_si, ins_cs, iadd_ii, isub_ii, w_onone, w_osome, w_sl, sl_s, sl_t, s_aug, eq_ss, len_s, ix_s, add_ss, str_s, tuple_t, list_t, is_n, not_n, non_n, non_i, non_b, non_s, non_t, non_r, abs_i, max_ii, min_ii, int_i, int_b, gcd_ii, len_t, ix_t, eq_v, ne_v, eq_ii, eq_bb, eq_nn, eq_in, eq_ni, iv_n_list, iv_n_tuple, iv_n_bool, iv_n_str, iv_n_int, okt_n, iv_b_list, iv_b_tuple, iv_b_bool, iv_b_str, iv_b_int, okt_b, iv_i_list, iv_i_tuple, iv_i_bool, iv_i_str, iv_i_int, okt_i, iv_s_list, iv_s_tuple, iv_s_bool, iv_s_str, iv_s_int, okt_s, iv_t_list, iv_t_tuple, iv_t_bool, iv_t_str, iv_t_int, okt_t, iv_r_list, iv_r_tuple, iv_r_bool, iv_r_str, iv_r_int, tru_b, tru_i, tru_n, tru_t, Option.map_some, Option.map_none, List.map_cons, List.map_nil, List.length_cons, List.length_nil, List.set_cons_zero, List.set_cons_succ, List.cons_append, List.nil_append, List.replicate, Nat.reduceAdd, Nat.reduceSub, Nat.reduceLeDiff, true_and, and_true, decide_eq_true_eq, reduceIte, Bool.false_eq_true, Bool.not_true, Bool.not_false, decide_true, decide_false]
      refine ⟨isLst_r P, ?_⟩
      rw [if_pos (by decide), fmod_pos (by decide)]
      try simp -dsimp only [at0, at1, at2, at3, at4, at5, at6, wp_fn, s_nil, s_brk, s_cnt, s_expr, s_ret, s_retN, s_if, s_asn, s_par, s_asg, g_nm, g_nil, g_cons, g_tupT, g_subW, w_v0, w_vS, w_c, w_op, w_un, w_anil, w_acons, w_tup, w_lst, w_call, w_callU, w_isi, w_meth, w_tru, w_bool, w_notS, w_andS, w_orS, w_ifx, w_andV, w_orV, w_notV, w_chain, wp_ok, wp_bad, wp_some, wp_none, wp_liftif, wp_if, asB_b, wp_noex, add_ii, sub_ii, mul_ii, fdiv_ii, mod_ii, pow_ii, neg_i, cmp_ii, lt_ii, le_ii, gt_ii, ge_ii, le_cc, muls_ii, muls_si, ins_cs, iadd_ii, isub_ii, w_onone, w_osome, w_sl, sl_s, sl_t, s_aug, eq_ss, len_s, ix_s, add_ss, str_s, tuple_t, list_t, is_n, not_n, non_n, non_i, non_b, non_s, non_t, non_r, abs_i, max_ii, min_ii, int_i, int_b, gcd_ii, len_t, ix_t, eq_v, ne_v, eq_ii, eq_bb, eq_nn, eq_in, eq_ni, iv_n_list, iv_n_tuple, iv_n_bool, iv_n_str, iv_n_int, okt_n, iv_b_list, iv_b_tuple, iv_b_bool, iv_b_str, iv_b_int, okt_b, iv_i_list, iv_i_tuple, iv_i_bool, iv_i_str, iv_i_int, okt_i, iv_s_list, iv_s_tuple, iv_s_bool, iv_s_str, iv_s_int, okt_s, iv_t_list, iv_t_tuple, iv_t_bool, iv_t_str, iv_t_int, okt_t, iv_r_list, iv_r_tuple, iv_r_bool, iv_r_str, iv_r_int, tru_b, tru_i, tru_n, tru_t, Option.map_some, Option.map_none, List.map_cons, List.map_nil, List.length_cons, List.length_nil, List.set_cons_zero, List.set_cons_succ, List.cons_append, List.nil_append, List.replicate, Nat.reduceAdd, Nat.reduceSub, Nat.reduceLeDiff, true_and, and_true, decide_eq_true_eq, reduceIte, Bool.false_eq_true, Bool.not_true, Bool.not_false, decide_true, decide_false]
      rw [append_r P (by rw [List.length_map]; omega)]
      try simp -dsimp only [at0, at1, at2, at3, at4, at5, at6, wp_fn, s_nil, s_brk, s_cnt, s_expr, s_ret, s_retN, s_if, s_asn, s_par, s_asg, g_nm, g_nil, g_cons, g_tupT, g_subW, w_v0, w_vS, w_c, w_op, w_un, w_anil, w_acons, w_tup, w_lst, w_call, w_callU, w_isi, w_meth, w_tru, w_bool, w_notS, w_andS, w_orS, w_ifx, w_andV, w_orV, w_notV, w_chain, wp_ok, wp_bad, wp_some, wp_none, wp_liftif, wp_if, asB_b, wp_noex, add_ii, sub_ii, mul_ii, fdiv_ii, mod_ii, pow_ii, neg_i, cmp_ii, lt_ii, le_ii, gt_ii, ge_ii, le_cc, muls_ii, muls_si, ins_cs, iadd_ii, isub_ii, w_onone, w_osome, w_sl, sl_s, sl_t, s_aug, eq_ss, len_s, ix_s, add_ss, str_s, tuple_t, list_t, is_n, not_n, non_n, non_i, non_b, non_s, non_t, non_r, abs_i, max_ii, min_ii, int_i, int_b, gcd_ii, len_t, ix_t, eq_v, ne_v, eq_ii, eq_bb, eq_nn, eq_in, eq_ni, iv_n_list, iv_n_tuple, iv_n_bool, iv_n_str, iv_n_int, okt_n, iv_b_list, iv_b_tuple, iv_b_bool, iv_b_str, iv_b_int, okt_b, iv_i_list, iv_i_tuple, iv_i_bool, iv_i_str, iv_i_int, okt_i, iv_s_list, iv_s_tuple, iv_s_bool, iv_s_str, iv_s_int, okt_s, iv_t_list, iv_t_tuple, iv_t_bool, iv_t_str, iv_t_int, okt_t, iv_r_list, iv_r_tuple, iv_r_bool, iv_r_str, iv_r_int, tru_b, tru_i, tru_n, tru_t, Option.map_some, Option.map_none, List.map_cons, List.map_nil, List.length_cons, List.length_nil, List.set_cons_zero, List.set_cons_succ, List.cons_append, List.nil_append, List.replicate, Nat.reduceAdd, Nat.reduceSub, Nat.reduceLeDiff, true_and, and_true, decide_eq_true_eq, reduceIte, Bool.false_eq_true, Bool.not_true, Bool.not_false, decide_true, decide_false]
      rw [if_pos ⟨by decide, big_of (by decide)⟩, fdiv_pos (by decide)]
      try simp -dsimp only [at0, at1, at2, at3, at4, at5, at6, wp_fn, s_nil, s_brk, s_cnt, s_expr, s_ret, s_retN, s_if, s_asn, s_par, s_asg, g_nm, g_nil, g_cons, g_tupT, g_subW, w_v0, w_vS, w_c, w_op, w_un, w_anil, w_acons, w_tup, w_lst, w_call, w_callU, w_isi, w_meth, w_tru, w_bool, w_notS, w_andS, w_orS, w_ifx, w_andV, w_orV, w_notV, w_chain, wp_ok, wp_bad, wp_some, wp_none, wp_liftif, wp_if, asB_b, wp_noex, add_ii, sub_ii, mul_ii, fdiv_ii, mod_ii, pow_ii, neg_i, cmp_ii, lt_ii, le_ii, gt_ii, ge_ii, le_cc, muls_ii, muls_si, ins_cs, iadd_ii, isub_ii, w_onone, w_osome, w_sl, sl_s, sl_t, s_aug, eq_ss, len_s, ix_s, add_ss, str_s, tuple_t, list_t, is_n, not_n, non_n, non_i, non_b, non_s, non_t, non_r, abs_i, max_ii, min_ii, int_i, int_b, gcd_ii, len_t, ix_t, eq_v, ne_v, eq_ii, eq_bb, eq_nn, eq_in, eq_ni, iv_n_list, iv_n_tuple, iv_n_bool, iv_n_str, iv_n_int, okt_n, iv_b_list, iv_b_tuple, iv_b_bool, iv_b_str, iv_b_int, okt_b, iv_i_list, iv_i_tuple, iv_i_bool, iv_i_str, iv_i_int, okt_i, iv_s_list, iv_s_tuple, iv_s_bool, iv_s_str, iv_s_int, okt_s, iv_t_list, iv_t_tuple, iv_t_bool, iv_t_str, iv_t_int, okt_t, iv_r_list, iv_r_tuple, iv_r_bool, iv_r_str, iv_r_int, tru_b, tru_i, tru_n, tru_t, Option.map_some, Option.map_none, List.map_cons, List.map_nil, List.length_cons, List.length_nil, List.set_cons_zero, List.set_cons_succ, List.cons_append, List.nil_append, List.replicate, Nat.reduceAdd, Nat.reduceSub, Nat.reduceLeDiff, true_and, and_true, decide_eq_true_eq, reduceIte, Bool.false_eq_true, Bool.not_true, Bool.not_false, decide_true, decide_false]
      refine ⟨v / 128, pre ++ [v % 128 + 128], _, rfl, (get_set_eq P).trans ?_, by omega, ?_, fun ds hd => ?_, by simp; omega, G.set (Nat.le_refl _)⟩
      · rw [List.map_append]; rfl
      · have e2 : 21 - z = (21 - (z + 1)) + 1 := by omega
        rw [e2, Int.pow_succ] at v1
        exact Int.ediv_lt_of_lt_mul (by decide) v1
      · rw [List.append_assoc]
        exact hn _ (.more (by omega) hd)
    · rw [if_neg c]
      refine ⟨v, pre, _, rfl, P, v0, ?_, hn, by omega, G⟩
      have e2 : 21 - (z + 1) = (19 - z) + 1 := by omega
      rw [e2, Int.pow_succ]
      have := Int.pow_pos (n := 128) (m := 19 - z) (by decide)
      omega
  · rintro l m' ⟨v, pre, x2, rfl, P, v0, v1, hn, hl, G⟩
    have v1 : v < 128 := v1
    try simp -dsimp only [at0, at1, at2, at3, at4, at5, at6, wp_fn, s_nil, s_brk, s_cnt, s_expr, s_ret, s_retN, s_if, s_asn, s_par, s_asg, g_nm, g_nil, g_cons, g_tupT, g_subW, w_v0, w_vS, w_c, w_op, w_un, w_anil, w_acons, w_tup, w_lst, w_call, w_callU, w_isi, w_meth, w_tru, w_bool, w_notS, w_andS, w_orS, w_ifx, w_andV, w_orV, w_notV, w_chain, wp_ok, wp_bad, wp_some, wp_none, wp_liftif, wp_if, asB_b, wp_noex, add_ii, sub_ii, mul_ii, fdiv_ii, mod_ii, pow_ii, neg_i, cmp_ii, lt_ii, le_ii, gt_ii, ge_ii, le_cc, muls_ii, muls_si, ins_cs, iadd_ii, isub_ii, w_onone, w_osome, w_sl, sl_s, sl_t, s_aug, eq_ss, len_s, ix_s, add_ss, str_s, tuple_t, list_t, is_n, not_n, non_n, non_i, non_b, non_s, non_t, non_r, abs_i, max_ii, min_ii, int_i, int_b, gcd_ii, len_t, ix_t, eq_v, ne_v, eq_ii, eq_bb, eq_nn, eq_in, eq_ni, iv_n_list, iv_n_tuple, iv_n_bool, iv_n_str, iv_n_int, okt_n, iv_b_list, iv_b_tuple, iv_b_bool, iv_b_str, iv_b_int, okt_b, iv_i_list, iv_i_tuple, iv_i_bool, iv_i_str, iv_i_int, okt_i, iv_s_list, iv_s_tuple, iv_s_bool, iv_s_str, iv_s_int, okt_s, iv_t_list, iv_t_tuple, iv_t_bool, iv_t_str, iv_t_int, okt_t, iv_r_list, iv_r_tuple, iv_r_bool, iv_r_str, iv_r_int, tru_b, tru_i, tru_n, tru_t, Option.map_some, Option.map_none, List.map_cons, List.map_nil, List.length_cons, List.length_nil, List.set_cons_zero, List.set_cons_succ, List.cons_append, List.nil_append, List.replicate, Nat.reduceAdd, Nat.reduceSub, Nat.reduceLeDiff, true_and, and_true, decide_eq_true_eq, reduceIte, Bool.false_eq_true, Bool.not_true, Bool.not_false, decide_true, decide_false]
    rw [s_seq]
    try simp -dsimp only [at0, at1, at2, at3, at4, at5, at6, wp_fn, s_nil, s_brk, s_cnt, s_expr, s_ret, s_retN, s_if, s_asn, s_par, s_asg, g_nm, g_nil, g_cons, g_tupT, g_subW, w_v0, w_vS, w_c, w_op, w_un, w_anil, w_acons, w_tup, w_lst, w_call, w_callU, w_isi, w_meth, w_tru, w_bool, w_notS, w_andS, w_orS, w_ifx, w_andV, w_orV, w_notV, w_chain, wp_ok, wp_bad, wp_some, wp_none, wp_liftif, wp_if, asB_b, wp_noex, add_ii, sub_ii, mul_ii, fdiv_ii, mod_ii, pow_ii, neg_i, cmp_ii, lt_ii, le_ii, gt_ii, ge_ii, le_cc, muls_ii, muls_si, ins_cs, iadd_ii, isub_ii, w_onone, w_osome, w_sl, sl_s, sl_t, s_aug, eq_ss, len_s, ix_s, add_ss, str_s, tuple_t, list_t, is_n, not_n, non_n, non_i, non_b, non_s, non_t, non_r, abs_i, max_ii, min_ii, int_i, int_b, gcd_ii, len_t, ix_t, eq_v, ne_v, eq_ii, eq_bb, eq_nn, eq_in, eq_ni, iv_n_list, iv_n_tuple, iv_n_bool, iv_n_str, iv_n_int, okt_n, iv_b_list, iv_b_tuple, iv_b_bool, iv_b_str, iv_b_int, okt_b, iv_i_list, iv_i_tuple, iv_i_bool, iv_i_str, iv_i_int, okt_i, iv_s_list, iv_s_tuple, iv_s_bool, iv_s_str, iv_s_int, okt_s, iv_t_list, iv_t_tuple, iv_t_bool, iv_t_str, iv_t_int, okt_t, iv_r_list, iv_r_tuple, iv_r_bool, iv_r_str, iv_r_int, tru_b, tru_i, tru_n, tru_t, Option.map_some, Option.map_none, List.map_cons, List.map_nil, List.length_cons, List.length_nil, List.set_cons_zero, List.set_cons_succ, List.cons_append, List.nil_append, List.replicate, Nat.reduceAdd, Nat.reduceSub, Nat.reduceLeDiff, true_and, and_true, decide_eq_true_eq, reduceIte, Bool.false_eq_true, Bool.not_true, Bool.not_false, decide_true, decide_false]
    refine ⟨isLst_r P, ?_⟩
    rw [append_r P (by rw [List.length_map]; omega)]
    try simp -dsimp only [at0, at1, at2, at3, at4, at5, at6, wp_fn, s_nil, s_brk, s_cnt, s_expr, s_ret, s_retN, s_if, s_asn, s_par, s_asg, g_nm, g_nil, g_cons, g_tupT, g_subW, w_v0, w_vS, w_c, w_op, w_un, w_anil, w_acons, w_tup, w_lst, w_call, w_callU, w_isi, w_meth, w_tru, w_bool, w_notS, w_andS, w_orS, w_ifx, w_andV, w_orV, w_notV, w_chain, wp_ok, wp_bad, wp_some, wp_none, wp_liftif, wp_if, asB_b, wp_noex, add_ii, sub_ii, mul_ii, fdiv_ii, mod_ii, pow_ii, neg_i, cmp_ii, lt_ii, le_ii, gt_ii, ge_ii, le_cc, muls_ii, muls_si, ins_cs, iadd_ii, isub_ii, w_onone, w_osome, w_sl, sl_s, sl_t, s_aug, eq_ss, len_s, ix_s, add_ss, str_s, tuple_t, list_t, is_n, not_n, non_n, non_i, non_b, non_s, non_t, non_r, abs_i, max_ii, min_ii, int_i, int_b, gcd_ii, len_t, ix_t, eq_v, ne_v, eq_ii, eq_bb, eq_nn, eq_in, eq_ni, iv_n_list, iv_n_tuple, iv_n_bool, iv_n_str, iv_n_int, okt_n, iv_b_list, iv_b_tuple, iv_b_bool, iv_b_str, iv_b_int, okt_b, iv_i_list, iv_i_tuple, iv_i_bool, iv_i_str, iv_i_int, okt_i, iv_s_list, iv_s_tuple, iv_s_bool, iv_s_str, iv_s_int, okt_s, iv_t_list, iv_t_tuple, iv_t_bool, iv_t_str, iv_t_int, okt_t, iv_r_list, iv_r_tuple, iv_r_bool, iv_r_str, iv_r_int, tru_b, tru_i, tru_n, tru_t, Option.map_some, Option.map_none, List.map_cons, List.map_nil, List.length_cons, List.length_nil, List.set_cons_zero, List.set_cons_succ, List.cons_append, List.nil_append, List.replicate, Nat.reduceAdd, Nat.reduceSub, Nat.reduceLeDiff, true_and, and_true, decide_eq_true_eq, reduceIte, Bool.false_eq_true, Bool.not_true, Bool.not_false, decide_true, decide_false]
    refine ⟨_, pre ++ [v], rfl, (get_set_eq P).trans ?_, hn _ (.last v0 v1), by simp; omega, Nat.le_refl _, G.set (Nat.le_refl _)⟩
    rw [List.map_append]
    rfl
def rdV (at_ : Int) : Option (Int × Nat) → PV
  | none => .non
  | some p => .tup [.int p.1, .int (at_ + p.2)]
theorem readnum_ok {m : MH} {d : Nat} {ds : List Int} {a : Nat} (h : m[d]? = some (.lst (ds.map .int))) (hb : ∀ x ∈ ds, 0 ≤ x ∧ x < 256) (hl : ds.length ≤ 10000) (ha : a ≤ 100000) : WP (f_read_number [.ref d, .int (a : Nat)] m) (fun x m' => x = rdV (a : Nat) (rdL true 0 1 (ds.drop a)) ∧ m' = m) NoE := by
  unfold f_read_number b_read_number
  try simp -dsimp only [at0, at1, at2, at3, at4, at5, at6, wp_fn, s_nil, s_brk, s_cnt, s_expr, s_ret, s_retN, s_if, s_asn, s_par, s_asg, g_nm, g_nil, g_cons, g_tupT, g_subW, w_v0, w_vS, w_c, w_op, w_un, w_anil, w_acons, w_tup, w_lst, w_call, w_callU, w_isi, w_meth, w_tru, w_bool, w_notS, w_andS, w_orS, w_ifx, w_andV, w_orV, w_notV, w_chain, wp_ok, wp_bad, wp_some, wp_none, wp_liftif, wp_if, asB_b, wp_noex, add_ii, sub_ii, mul_ii, fdiv_ii, mod_ii, pow_ii, neg_i, cmp_ii, lt_ii, le_ii, gt_ii, ge_ii, le_cc, muls_ii, muls_si, ins_cs, iadd_ii, isub_ii, w_onone, w_osome, w_sl, sl_s, sl_t, s_aug, eq_ss, len_s, ix_s, add_ss, str_s, tuple_t, list_t, is_n, not_n, non_n, non_i, non_b, non_s, non_t, non_r, abs_i, max_ii, min_ii, int_i, int_b, gcd_ii, len_t, ix_t, eq_v, ne_v, eq_ii, eq_bb, eq_nn, eq_in, eq_ni, iv_n_list, iv_n_tuple, iv_n_bool, iv_n_str, iv_n_int, okt_n, iv_b_list, iv_b_tuple, iv_b_bool, iv_b_str, iv_b_int, okt_b, iv_i_list, iv_i_tuple, iv_i_bool, iv_i_str, iv_i_int, okt_i, iv_s_list, iv_s_tuple, iv_s_bool, iv_s_str, iv_s_int, okt_s, iv_t_list, iv_t_tuple, iv_t_bool, iv_t_str, iv_t_int, okt_t, iv_r_list, iv_r_tuple, iv_r_bool, iv_r_str, iv_r_int, tru_b, tru_i, tru_n, tru_t, Option.map_some, Option.map_none, List.map_cons, List.map_nil, List.length_cons, List.length_nil, List.set_cons_zero, List.set_cons_succ, List.cons_append, List.nil_append, List.replicate, Nat.reduceAdd, Nat.reduceSub, Nat.reduceLeDiff, true_and, and_true, decide_eq_true_eq, reduceIte, Bool.false_eq_true, Bool.not_true, Bool.not_false, decide_true, decide_false]
  rw [s_seq]
  try simp -dsimp only [at0, at1, at2, at3, at4, at5, at6, wp_fn, s_nil, s_brk, s_cnt, s_expr, s_ret, s_retN, s_if, s_asn, s_par, s_asg, g_nm, g_nil, g_cons, g_tupT, g_subW, w_v0, w_vS, w_c, w_op, w_un, w_anil, w_acons, w_tup, w_lst, w_call, w_callU, w_isi, w_meth, w_tru, w_bool, w_notS, w_andS, w_orS, w_ifx, w_andV, w_orV, w_notV, w_chain, wp_ok, wp_bad, wp_some, wp_none, wp_liftif, wp_if, asB_b, wp_noex, add_ii, sub_ii, mul_ii, fdiv_ii, mod_ii, pow_ii, neg_i, cmp_ii, lt_ii, le_ii, gt_ii, ge_ii, le_cc, muls_ii, muls_si, ins_cs, iadd_ii, isub_ii, w_onone, w_osome, w_sl, sl_s, sl_t, s_aug, eq_ss, len_s, ix_s, add_ss, str_s, tuple_t, list_t, is_n, not_n, non_n, non_i, non_b, non_s, non_t, non_r, abs_i, max_ii, min_ii, int_i, int_b, gcd_ii, len_t, ix_t, eq_v, ne_v, eq_ii, eq_bb, eq_nn, eq_in, eq_ni, iv_n_list, iv_n_tuple, iv_n_bool, iv_n_str, iv_n_int, okt_n, iv_b_list, iv_b_tuple, iv_b_bool, iv_b_str, iv_b_int, okt_b, iv_i_list, iv_i_tuple, iv_i_bool, iv_i_str, iv_i_int, okt_i, iv_s_list, iv_s_tuple, iv_s_bool, iv_s_str, iv_s_int, okt_s, iv_t_list, iv_t_tuple, iv_t_bool, iv_t_str, iv_t_int, okt_t, iv_r_list, iv_r_tuple, iv_r_bool, iv_r_str, iv_r_int, tru_b, tru_i, tru_n, tru_t, Option.map_some, Option.map_none, List.map_cons, List.map_nil, List.length_cons, List.length_nil, List.set_cons_zero, List.set_cons_succ, List.cons_append, List.nil_append, List.replicate, Nat.reduceAdd, Nat.reduceSub, Nat.reduceLeDiff, true_and, and_true, decide_eq_true_eq, reduceIte, Bool.false_eq_true, Bool.not_true, Bool.not_false, decide_true, decide_false]
  rw [s_seq]
  try simp -dsimp only [at0, at1, at2, at3, at4, at5, at6, wp_fn, s_nil, s_brk, s_cnt, s_expr, s_ret, s_retN, s_if, s_asn, s_par, s_asg, g_nm, g_nil, g_cons, g_tupT, g_subW, w_v0, w_vS, w_c, w_op, w_un, w_anil, w_acons, w_tup, w_lst, w_call, w_callU, w_isi, w_meth, w_tru, w_bool, w_notS, w_andS, w_orS, w_ifx, w_andV, w_orV, w_notV, w_chain, wp_ok, wp_bad, wp_some, wp_none, wp_liftif, wp_if, asB_b, wp_noex, add_ii, sub_ii, mul_ii, fdiv_ii, mod_ii, pow_ii, neg_i, cmp_ii, lt_ii, le_ii, gt_ii, ge_ii, le_cc, muls_ii, muls_si, ins_cs, iadd_ii, isub_ii, w_onone, w_osome, w_sl, sl_s, sl_t, s_aug, eq_ss, len_s, ix_s, add_ss, str_s, tuple_t, list_t, is_n, not_n, non_n, non_i, non_b, non_s, non_t, non_r, abs_i, max_ii, min_ii, int_i, int_b, gcd_ii, len_t, ix_t, eq_v, ne_v, eq_ii, eq_bb, eq_nn, eq_in, eq_ni, iv_n_list, iv_n_tuple, iv_n_bool, iv_n_str, iv_n_int, okt_n, iv_b_list, iv_b_tuple, iv_b_bool, iv_b_str, iv_b_int, okt_b, iv_i_list, iv_i_tuple, iv_i_bool, iv_i_str, iv_i_int, okt_i, iv_s_list, iv_s_tuple, iv_s_bool, iv_s_str, iv_s_int, okt_s, iv_t_list, iv_t_tuple, iv_t_bool, iv_t_str, iv_t_int, okt_t, iv_r_list, iv_r_tuple, iv_r_bool, iv_r_str, iv_r_int, tru_b, tru_i, tru_n, tru_t, Option.map_some, Option.map_none, List.map_cons, List.map_nil, List.length_cons, List.length_nil, List.set_cons_zero, List.set_cons_succ, List.cons_append, List.nil_append, List.replicate, Nat.reduceAdd, Nat.reduceSub, Nat.reduceLeDiff, true_and, and_true, decide_eq_true_eq, reduceIte, Bool.false_eq_true, Bool.not_true, Bool.not_false, decide_true, decide_false]
  rw [s_seq]
  refine s_for2W ?_
  try simp -dsimp only [at0, at1, at2, at3, at4, at5, at6, wp_fn, s_nil, s_brk, s_cnt, s_expr, s_ret, s_retN, s_if, s_asn, s_par, s_asg, g_nm, g_nil, g_cons, g_tupT, g_subW, w_v0, w_vS, w_c, w_op, w_un, w_anil, w_acons, w_tup, w_lst, w_call, w_callU, w_isi, w_meth, w_tru, w_bool, w_notS, w_andS, w_orS, w_ifx, w_andV, w_orV, w_notV, w_chain, wp_ok, wp_bad, wp_some, wp_none, wp_liftif, wp_if, asB_b, wp_noex, add_ii, sub_ii, mul_ii, fdiv_ii, mod_ii, pow_ii, neg_i, cmp_ii, lt_ii, le_ii, gt_ii, ge_ii, le_cc, muls_ii, muls_si, ins_cs, iadd_ii, isub_ii, w_onone, w_osome, w_sl, sl_s, sl_t, s_aug, eq_ss, len_s, ix_s, add_ss, str_s, tuple_t, list_t, is_n, not_n, non_n, non_i, non_b, non_s, non_t, non_r, abs_i, max_ii, min_ii, int_i, int_b, gcd_ii, len_t, ix_t, eq_v, ne_v, eq_ii, eq_bb, eq_nn, eq_in, eq_ni, iv_n_list, iv_n_tuple, iv_n_bool, iv_n_str, iv_n_int, okt_n, iv_b_list, iv_b_tuple, iv_b_bool, iv_b_str, iv_b_int, okt_b, iv_i_list, iv_i_tuple, iv_i_bool, iv_i_str, iv_i_int, okt_i, iv_s_list, iv_s_tuple, iv_s_bool, iv_s_str, iv_s_int, okt_s, iv_t_list, iv_t_tuple, iv_t_bool, iv_t_str, iv_t_int, okt_t, iv_r_list, iv_r_tuple, iv_r_bool, iv_r_str, iv_r_int, tru_b, tru_i, tru_n, tru_t, Option.map_some, Option.map_none, List.map_cons, List.map_nil, List.length_cons, List.length_nil, List.set_cons_zero, List.set_cons_succ, List.cons_append, List.nil_append, List.replicate, Nat.reduceAdd, Nat.reduceSub, Nat.reduceLeDiff, true_and, and_true, decide_eq_true_eq, reduceIte, Bool.false_eq_true, Bool.not_true, Bool.not_false, decide_true, decide_false]
  rw [len_r (seq_of_lst h), List.length_map]
  try simp -dsimp only [at0, at1, at2, at3, at4, at5, at6, wp_fn, s_nil, s_brk, s_cnt, s_expr, s_ret, s_retN, s_if, s_asn, s_par, s_asg, g_nm, g_nil, g_cons, g_tupT, g_subW, w_v0, w_vS, w_c, w_op, w_un, w_anil, w_acons, w_tup, w_lst, w_call, w_callU, w_isi, w_meth, w_tru, w_bool, w_notS, w_andS, w_orS, w_ifx, w_andV, w_orV, w_notV, w_chain, wp_ok, wp_bad, wp_some, wp_none, wp_liftif, wp_if, asB_b, wp_noex, add_ii, sub_ii, mul_ii, fdiv_ii, mod_ii, pow_ii, neg_i, cmp_ii, lt_ii, le_ii, gt_ii, ge_ii, le_cc, muls_ii, muls_si, ins_cs, iadd_ii, isub_ii, w_onone, w_osome, w_sl, sl_s, sl_t, s_aug, eq_ss, len_s, ix_s, add_ss, str_s, tuple_t, list_t, is_n, not_n, non_n, non_i, non_b, non_s, non_t, non_r, abs_i, max_ii, min_ii, int_i, int_b, gcd_ii, len_t, ix_t, eq_v, ne_v, eq_ii, eq_bb, eq_nn, eq_in, eq_ni, iv_n_list, iv_n_tuple, iv_n_bool, iv_n_str, iv_n_int, okt_n, iv_b_list, iv_b_tuple, iv_b_bool, iv_b_str, iv_b_int, okt_b, iv_i_list, iv_i_tuple, iv_i_bool, iv_i_str, iv_i_int, okt_i, iv_s_list, iv_s_tuple, iv_s_bool, iv_s_str, iv_s_int, okt_s, iv_t_list, iv_t_tuple, iv_t_bool, iv_t_str, iv_t_int, okt_t, iv_r_list, iv_r_tuple, iv_r_bool, iv_r_str, iv_r_int, tru_b, tru_i, tru_n, tru_t, Option.map_some, Option.map_none, List.map_cons, List.map_nil, List.length_cons, List.length_nil, List.set_cons_zero, List.set_cons_succ, List.cons_append, List.nil_append, List.replicate, Nat.reduceAdd, Nat.reduceSub, Nat.reduceLeDiff, true_and, and_true, decide_eq_true_eq, reduceIte, Bool.false_eq_true, Bool.not_true, Bool.not_false, decide_true, decide_false]
  refine ⟨_, _, rfl, rfl, ⟨by omega, by omega, by omega, by omega⟩, fun j l m' => ∃ (num w : Int) (x4 x5 : Option PV), l = [some (.ref d), some (.int (a : Nat)), some (.int num), some (.int w), x4, x5] ∧ m' = m ∧ rdL true 0 1 (ds.drop a) = (rdL (decide (j = 0)) num w (ds.drop (a + j))).map fun p => (p.1, p.2 + j), ⟨0, 1, _, _, rfl, rfl, ?_⟩, ?_, ?_⟩
  · show _ = (rdL true 0 1 (ds.drop a)).map _
    cases rdL true 0 1 (ds.drop a) <;> rfl
  · rintro j l m hj ⟨num, w, x4, x5, rfl, rfl, e⟩
    have hj' : a + j < ds.length := by omega
    have ed : ds[a + j]? = some (ds[a + j]'hj') := List.getElem?_eq_getElem hj'
    have hd := hb _ (List.mem_of_getElem? ed)
    have edr : ds.drop (a + j) = ds[a + j]'hj' :: ds.drop (a + (j + 1)) := List.drop_eq_getElem_cons hj'
    generalize ds[a + j]'hj' = x at *
    rw [edr] at e
    have ea : atI (ds.map PV.int) (((a : Nat) : Int) + (j : Nat)) = some (.int x) := by
      have : ((a : Nat) : Int) + (j : Nat) = ((a + j : Nat) : Int) := by omega
      rw [this]
      exact atI_nat (by rw [List.getElem?_map, ed]; rfl)
    unfold read_number_l1
    try simp -dsimp only [at0, at1, at2, at3, at4, at5, at6, wp_fn, s_nil, s_brk, s_cnt, s_expr, s_ret, s_retN, s_if, s_asn, s_par, s_asg, g_nm, g_nil, g_cons, g_tupT, g_subW, w_v0, w_vS, w_c, w_op, w_un, w_anil, w_acons, w_tup, w_lst, w_call, w_callU, w_isi, w_meth, w_tru, w_bool, w_notS, w_andS, w_orS, w_ifx, w_andV, w_orV, w_notV, w_chain, wp_ok, wp_bad, wp_some, wp_none, wp_liftif, wp_if, asB_b, wp_noex, add_ii, sub_ii, mul_ii, fdiv_ii, mod_ii, pow_ii, neg_i, cmp_ii, lt_ii, le_ii, gt_ii, ge_ii, le_cc, muls_ii, muls_si, ins_cs, iadd_ii, isub_ii, w_onone, w_osome, w_sl, sl_s, sl_t, s_aug, eq_ss, len_s, ix_s, add_ss, str_s, tuple_t, list_t, is_n, not_n, non_n, non_i, non_b, non_s, non_t, non_r, abs_i, max_ii, min_ii, int_i, int_b, gcd_ii, len_t, ix_t, eq_v, ne_v, eq_ii, eq_bb, eq_nn, eq_in, eq_ni, iv_n_list, iv_n_tuple, iv_n_bool, iv_n_str, iv_n_int, okt_n, iv_b_list, iv_b_tuple, iv_b_bool, iv_b_str, iv_b_int, okt_b, iv_i_list, iv_i_tuple, iv_i_bool, iv_i_str, iv_i_int, okt_i, iv_s_list, iv_s_tuple, iv_s_bool, iv_s_str, iv_s_int, okt_s, iv_t_list, iv_t_tuple, iv_t_bool, iv_t_str, iv_t_int, okt_t, iv_r_list, iv_r_tuple, iv_r_bool, iv_r_str, iv_r_int, tru_b, tru_i, tru_n, tru_t, Option.map_some, Option.map_none, List.map_cons, List.map_nil, List.length_cons, List.length_nil, List.set_cons_zero, List.set_cons_succ, List.cons_append, List.nil_append, List.replicate, Nat.reduceAdd, Nat.reduceSub, Nat.reduceLeDiff, true_and, and_true, decide_eq_true_eq, reduceIte, Bool.false_eq_true, Bool.not_true, Bool.not_false, decide_true, decide_false]
    rw [s_seq]
    try simp -dsimp only [at0, at1, at2, at3, at4, at5, at6, wp_fn, s_nil, s_brk, s_cnt, s_expr, s_ret, s_retN, s_if, s_asn, s_par, s_asg, g_nm, g_nil, g_cons, g_tupT, g_subW, w_v0, w_vS, w_c, w_op, w_un, w_anil, w_acons, w_tup, w_lst, w_call, w_callU, w_isi, w_meth, w_tru, w_bool, w_notS, w_andS, w_orS, w_ifx, w_andV, w_orV, w_notV, w_chain, wp_ok, wp_bad, wp_some, wp_none, wp_liftif, wp_if, asB_b, wp_noex, add_ii, sub_ii, mul_ii, fdiv_ii, mod_ii, pow_ii, neg_i, cmp_ii, lt_ii, le_ii, gt_ii, ge_ii, le_cc, muls_ii, muls_si, ins_cs, iadd_ii, isub_ii, w_onone, w_osome, w_sl, sl_s, sl_t, s_aug, eq_ss, len_s, ix_s, add_ss, str_s, tuple_t, list_t, is_n, not_n, non_n, non_i, non_b, non_s, non_t, non_r, abs_i, max_ii, min_ii, int_i, int_b, gcd_ii, len_t, ix_t, eq_v, ne_v, eq_ii, eq_bb, eq_nn, eq_in, eq_ni, iv_n_list, iv_n_tuple, iv_n_bool, iv_n_str, iv_n_int, okt_n, iv_b_list, iv_b_tuple, iv_b_bool, iv_b_str, iv_b_int, okt_b, iv_i_list, iv_i_tuple, iv_i_bool, iv_i_str, iv_i_int, okt_i, iv_s_list, iv_s_tuple, iv_s_bool, iv_s_str, iv_s_int, okt_s, iv_t_list, iv_t_tuple, iv_t_bool, iv_t_str, iv_t_int, okt_t, iv_r_list, iv_r_tuple, iv_r_bool, iv_r_str, iv_r_int, tru_b, tru_i, tru_n, tru_t, Option.map_some, Option.map_none, List.map_cons, List.map_nil, List.length_cons, List.length_nil, List.set_cons_zero, List.set_cons_succ, List.cons_append, List.nil_append, List.replicate, Nat.reduceAdd, Nat.reduceSub, Nat.reduceLeDiff, true_and, and_true, decide_eq_true_eq, reduceIte, Bool.false_eq_true, Bool.not_true, Bool.not_false, decide_true, decide_false]
    rw [pix h ea]
    try simp -dsimp only [at0, at1, at2, at3, at4, at5, at6, wp_fn, s_nil, s_brk, s_cnt, s_expr, s_ret, s_retN, s_if, s_asn, s_par, s_asg, g_nm, g_nil, g_cons, g_tupT, g_subW, w_v0, w_vS, w_c, w_op, w_un, w_anil, w_acons, w_tup, w_lst, w_call, w_callU, w_isi, w_meth, w_tru, w_bool, w_notS, w_andS, w_orS, w_ifx, w_andV, w_orV, w_notV, w_chain, wp_ok, wp_bad, wp_some, wp_none, wp_liftif, wp_if, asB_b, wp_noex, add_ii, sub_ii, mul_ii, fdiv_ii, mod_ii, pow_ii, neg_i, cmp_ii, lt_ii, le_ii, gt_ii, ge_ii, le_cc, muls_ii, muls_si, ins_cs, iadd_ii, isub_ii, w_onone, w_osome, w_sl, sl_s, sl_t, s_aug, eq_ss, len_s, ix_s, add_ss, str_s, tuple_t, list_t, is_n, not_n, non_n, non_i, non_b, non_s, non_t, non_r, abs_i, max_ii, min_ii, int_i, int_b, gcd_ii, len_t, ix_t, eq_v, ne_v, eq_ii, eq_bb, eq_nn, eq_in, eq_ni, iv_n_list, iv_n_tuple, iv_n_bool, iv_n_str, iv_n_int, okt_n, iv_b_list, iv_b_tuple, iv_b_bool, iv_b_str, iv_b_int, okt_b, iv_i_list, iv_i_tuple, iv_i_bool, iv_i_str, iv_i_int, okt_i, iv_s_list, iv_s_tuple, iv_s_bool, iv_s_str, iv_s_int, okt_s, iv_t_list, iv_t_tuple, iv_t_bool, iv_t_str, iv_t_int, okt_t, iv_r_list, iv_r_tuple, iv_r_bool, iv_r_str, iv_r_int, tru_b, tru_i, tru_n, tru_t, Option.map_some, Option.map_none, List.map_cons, List.map_nil, List.length_cons, List.length_nil, List.set_cons_zero, List.set_cons_succ, List.cons_append, List.nil_append, List.replicate, Nat.reduceAdd, Nat.reduceSub, Nat.reduceLeDiff, true_and, and_true, decide_eq_true_eq, reduceIte, Bool.false_eq_true, Bool.not_true, Bool.not_false, decide_true, decide_false]
    rw [s_seq]
    try simp -dsimp only [at0, at1, at2, at3, at4, at5, at6, wp_fn, s_nil, s_brk, s_cnt, s_expr, s_ret, s_retN, s_if, s_asn, s_par, s_asg, g_nm, g_nil, g_cons, g_tupT, g_subW, w_v0, w_vS, w_c, w_op, w_un, w_anil, w_acons, w_tup, w_lst, w_call, w_callU, w_isi, w_meth, w_tru, w_bool, w_notS, w_andS, w_orS, w_ifx, w_andV, w_orV, w_notV, w_chain, wp_ok, wp_bad, wp_some, wp_none, wp_liftif, wp_if, asB_b, wp_noex, add_ii, sub_ii, mul_ii, fdiv_ii, mod_ii, pow_ii, neg_i, cmp_ii, lt_ii, le_ii, gt_ii, ge_ii, le_cc, muls_ii, muls_si, ins_cs, iadd_ii, isub_ii, w_onone, w_osome, w_sl, sl_s, sl_t, s_aug, eq_ss, len_s, ix_s, add_ss, str_s, tuple_t, list_t, is_n, not_n, non_n, non_i, non_b, non_s, non_t, non_r, abs_i, max_ii, min_ii, int_i, int_b, gcd_ii, len_t, ix_t, eq_v, ne_v, eq_ii, eq_bb, eq_nn, eq_in, eq_ni, iv_n_list, iv_n_tuple, iv_n_bool, iv_n_str, iv_n_int, okt_n, iv_b_list, iv_b_tuple, iv_b_bool, iv_b_str, iv_b_int, okt_b, iv_i_list, iv_i_tuple, iv_i_bool, iv_i_str, iv_i_int, okt_i, iv_s_list, iv_s_tuple, iv_s_bool, iv_s_str, iv_s_int, okt_s, iv_t_list, iv_t_tuple, iv_t_bool, iv_t_str, iv_t_int, okt_t, iv_r_list, iv_r_tuple, iv_r_bool, iv_r_str, iv_r_int, tru_b, tru_i, tru_n, tru_t, Option.map_some, Option.map_none, List.map_cons, List.map_nil, List.length_cons, List.length_nil, List.set_cons_zero, List.set_cons_succ, List.cons_append, List.nil_append, List.replicate, Nat.reduceAdd, Nat.reduceSub, Nat.reduceLeDiff, true_and, and_true, decide_eq_true_eq, reduceIte, Bool.false_eq_true, Bool.not_true, Bool.not_false, decide_true, decide_false]
    rw [rdL_cons] at e
    by_cases c : x < 128
    · rw [if_pos c]
      rw [if_pos c] at e
      try simp -dsimp only [at0, at1, at2, at3, at4, at5, at6, wp_fn, s_nil, s_brk, s_cnt, s_expr, s_ret, s_retN, s_if, s_asn, s_par, s_asg, g_nm, g_nil, g_cons, g_tupT, g_subW, w_v0, w_vS, w_c, w_op, w_un, w_anil, w_acons, w_tup, w_lst, w_call, w_callU, w_isi, w_meth, w_tru, w_bool, w_notS, w_andS, w_orS, w_ifx, w_andV, w_orV, w_notV, w_chain, wp_ok, wp_bad, wp_some, wp_none, wp_liftif, wp_if, asB_b, wp_noex, add_ii, sub_ii, mul_ii, fdiv_ii, mod_ii, pow_ii, neg_i, cmp_ii, lt_ii, le_ii, gt_ii, ge_ii, le_cc, muls_ii, muls_si, ins_cs, iadd_ii, isub_ii, w_onone, w_osome, w_sl, sl_s, sl_t, s_aug, eq_ss, len_s, ix_s, add_ss, str_s, tuple_t, list_t, is_n, not_n, non_n, non_i, non_b, non_s, non_t, non_r, abs_i, max_ii, min_ii, int_i, int_b, gcd_ii, len_t, ix_t, eq_v, ne_v, eq_ii, eq_bb, eq_nn, eq_in, eq_ni, iv_n_list, iv_n_tuple, iv_n_bool, iv_n_str, iv_n_int, okt_n, iv_b_list, iv_b_tuple, iv_b_bool, iv_b_str, iv_b_int, okt_b, iv_i_list, iv_i_tuple, iv_i_bool, iv_i_str, iv_i_int, okt_i, iv_s_list, iv_s_tuple, iv_s_bool, iv_s_str, iv_s_int, okt_s, iv_t_list, iv_t_tuple, iv_t_bool, iv_t_str, iv_t_int, okt_t, iv_r_list, iv_r_tuple, iv_r_bool, iv_r_str, iv_r_int, tru_b, tru_i, tru_n, tru_t, Option.map_some, Option.map_none, List.map_cons, List.map_nil, List.length_cons, List.length_nil, List.set_cons_zero, List.set_cons_succ, List.cons_append, List.nil_append, List.replicate, Nat.reduceAdd, Nat.reduceSub, Nat.reduceLeDiff, true_and, and_true, decide_eq_true_eq, reduceIte, Bool.false_eq_true, Bool.not_true, Bool.not_false, decide_true, decide_false]
      rw [s_seq]
      try simp -dsimp only [at0, at1, at2, at3, at4, at5, at6, wp_fn, s_nil, s_brk, s_cnt, s_expr, s_ret, s_retN, s_if, s_asn, s_par, s_asg, g_nm, g_nil, g_cons, g_tupT, g_subW, w_v0, w_vS, w_c, w_op, w_un, w_anil, w_acons, w_tup, w_lst, w_call, w_callU, w_isi, w_meth, w_tru, w_bool, w_notS, w_andS, w_orS, w_ifx, w_andV, w_orV, w_notV, w_chain, wp_ok, wp_bad, wp_some, wp_none, wp_liftif, wp_if, asB_b, wp_noex, add_ii, sub_ii, mul_ii, fdiv_ii, mod_ii, pow_ii, neg_i, cmp_ii, lt_ii, le_ii, gt_ii, ge_ii, le_cc, muls_ii, muls_si, ins_cs, iadd_ii, isub_ii, w_onone, w_osome, w_sl, sl_s, sl_t, s_aug, eq_ss, len_s, ix_s, add_ss, str_s, tuple_t, list_t, is_n, not_n, non_n, non_i, non_b, non_s, non_t, non_r, abs_i, max_ii, min_ii, int_i, int_b, gcd_ii, len_t, ix_t, eq_v, ne_v, eq_ii, eq_bb, eq_nn, eq_in, eq_ni, iv_n_list, iv_n_tuple, iv_n_bool, iv_n_str, iv_n_int, okt_n, iv_b_list, iv_b_tuple, iv_b_bool, iv_b_str, iv_b_int, okt_b, iv_i_list, iv_i_tuple, iv_i_bool, iv_i_str, iv_i_int, okt_i, iv_s_list, iv_s_tuple, iv_s_bool, iv_s_str, iv_s_int, okt_s, iv_t_list, iv_t_tuple, iv_t_bool, iv_t_str, iv_t_int, okt_t, iv_r_list, iv_r_tuple, iv_r_bool, iv_r_str, iv_r_int, tru_b, tru_i, tru_n, tru_t, Option.map_some, Option.map_none, List.map_cons, List.map_nil, List.length_cons, List.length_nil, List.set_cons_zero, List.set_cons_succ, List.cons_append, List.nil_append, List.replicate, Nat.reduceAdd, Nat.reduceSub, Nat.reduceLeDiff, true_and, and_true, decide_eq_true_eq, reduceIte, Bool.false_eq_true, Bool.not_true, Bool.not_false, decide_true, decide_false]
      by_cases c2 : x = 0
      · rw [if_pos c2]
        by_cases c3 : j = 0
        · rw [if_neg (by omega)]
          rw [decide_eq_true c3, if_neg (by simp)] at e
          try simp -dsimp only [at0, at1, at2, at3, at4, at5, at6, wp_fn, s_nil, s_brk, s_cnt, s_expr, s_ret, s_retN, s_if, s_asn, s_par, s_asg, g_nm, g_nil, g_cons, g_tupT, g_subW, w_v0, w_vS, w_c, w_op, w_un, w_anil, w_acons, w_tup, w_lst, w_call, w_callU, w_isi, w_meth, w_tru, w_bool, w_notS, w_andS, w_orS, w_ifx, w_andV, w_orV, w_notV, w_chain, wp_ok, wp_bad, wp_some, wp_none, wp_liftif, wp_if, asB_b, wp_noex, add_ii, sub_ii, mul_ii, fdiv_ii, mod_ii, pow_ii, neg_i, cmp_ii, lt_ii, le_ii, gt_ii, ge_ii, le_cc, muls_ii, muls_si, ins_cs, iadd_ii, isub_ii, w_onone, w_osome, w_sl, sl_s, sl_t, s_aug, eq_ss, len_s, ix_s, add_ss, str_s, tuple_t, list_t, is_n, not_n, non_n, non_i, non_b, non_s, non_t, non_r, abs_i, max_ii, min_ii, int_i, int_b, gcd_ii, len_t, ix_t, eq_v, ne_v, eq_ii, eq_bb, eq_nn, eq_in, eq_ni, iv_n_list, iv_n_tuple, iv_n_bool, iv_n_str, iv_n_int, okt_n, iv_b_list, iv_b_tuple, iv_b_bool, iv_b_str, iv_b_int, okt_b, iv_i_list, iv_i_tuple, iv_i_bool, iv_i_str, iv_i_int, okt_i, iv_s_list, iv_s_tuple, iv_s_bool, iv_s_str, iv_s_int, okt_s, iv_t_list, iv_t_tuple, iv_t_bool, iv_t_str, iv_t_int, okt_t, iv_r_list, iv_r_tuple, iv_r_bool, iv_r_str, iv_r_int, tru_b, tru_i, tru_n, tru_t, Option.map_some, Option.map_none, List.map_cons, List.map_nil, List.length_cons, List.length_nil, List.set_cons_zero, List.set_cons_succ, List.cons_append, List.nil_append, List.replicate, Nat.reduceAdd, Nat.reduceSub, Nat.reduceLeDiff, true_and, and_true, decide_eq_true_eq, reduceIte, Bool.false_eq_true, Bool.not_true, Bool.not_false, decide_true, decide_false]
          rw [if_pos (.inl (.inl (by omega)))]
          try simp -dsimp only [at0, at1, at2, at3, at4, at5, at6, wp_fn, s_nil, s_brk, s_cnt, s_expr, s_ret, s_retN, s_if, s_asn, s_par, s_asg, g_nm, g_nil, g_cons, g_tupT, g_subW, w_v0, w_vS, w_c, w_op, w_un, w_anil, w_acons, w_tup, w_lst, w_call, w_callU, w_isi, w_meth, w_tru, w_bool, w_notS, w_andS, w_orS, w_ifx, w_andV, w_orV, w_notV, w_chain, wp_ok, wp_bad, wp_some, wp_none, wp_liftif, wp_if, asB_b, wp_noex, add_ii, sub_ii, mul_ii, fdiv_ii, mod_ii, pow_ii, neg_i, cmp_ii, lt_ii, le_ii, gt_ii, ge_ii, le_cc, muls_ii, muls_si, ins_cs, iadd_ii, isub_ii, w_onone, w_osome, w_sl, sl_s, sl_t, s_aug, eq_ss, len_s, ix_s, add_ss, str_s, tuple_t, list_t, is_n, not_n, non_n, non_i, non_b, non_s, non_t, non_r, abs_i, max_ii, min_ii, int_i, int_b, gcd_ii, len_t, ix_t, eq_v, ne_v, eq_ii, eq_bb, eq_nn, eq_in, eq_ni, iv_n_list, iv_n_tuple, iv_n_bool, iv_n_str, iv_n_int, okt_n, iv_b_list, iv_b_tuple, iv_b_bool, iv_b_str, iv_b_int, okt_b, iv_i_list, iv_i_tuple, iv_i_bool, iv_i_str, iv_i_int, okt_i, iv_s_list, iv_s_tuple, iv_s_bool, iv_s_str, iv_s_int, okt_s, iv_t_list, iv_t_tuple, iv_t_bool, iv_t_str, iv_t_int, okt_t, iv_r_list, iv_r_tuple, iv_r_bool, iv_r_str, iv_r_int, tru_b, tru_i, tru_n, tru_t, Option.map_some, Option.map_none, List.map_cons, List.map_nil, List.length_cons, List.length_nil, List.set_cons_zero, List.set_cons_succ, List.cons_append, List.nil_append, List.replicate, Nat.reduceAdd, Nat.reduceSub, Nat.reduceLeDiff, true_and, and_true, decide_eq_true_eq, reduceIte, Bool.false_eq_true, Bool.not_true, Bool.not_false, decide_true, decide_false]
          rw [e]
          unfold rdV
          simp [c3]
        · rw [if_pos (by omega)]
          rw [decide_eq_false c3, if_pos ⟨c2, rfl⟩] at e
          try simp -dsimp only [at0, at1, at2, at3, at4, at5, at6, wp_fn, s_nil, s_brk, s_cnt, s_expr, s_ret, s_retN, s_if, s_asn, s_par, s_asg, g_nm, g_nil, g_cons, g_tupT, g_subW, w_v0, w_vS, w_c, w_op, w_un, w_anil, w_acons, w_tup, w_lst, w_call, w_callU, w_isi, w_meth, w_tru, w_bool, w_notS, w_andS, w_orS, w_ifx, w_andV, w_orV, w_notV, w_chain, wp_ok, wp_bad, wp_some, wp_none, wp_liftif, wp_if, asB_b, wp_noex, add_ii, sub_ii, mul_ii, fdiv_ii, mod_ii, pow_ii, neg_i, cmp_ii, lt_ii, le_ii, gt_ii, ge_ii, le_cc, muls_ii, muls_si, ins_cs, iadd_ii, isub_ii, w_onone, w_osome, w_sl, sl_s, sl_t, s_aug, eq_ss, len_s, ix_s, add_ss, str_s, tuple_t, list_t, is_n, not_n, non_n, non_i, non_b, non_s, non_t, non_r, abs_i, max_ii, min_ii, int_i, int_b, gcd_ii, len_t, ix_t, eq_v, ne_v, eq_ii, eq_bb, eq_nn, eq_in, eq_ni, iv_n_list, iv_n_tuple, iv_n_bool, iv_n_str, iv_n_int, okt_n, iv_b_list, iv_b_tuple, iv_b_bool, iv_b_str, iv_b_int, okt_b, iv_i_list, iv_i_tuple, iv_i_bool, iv_i_str, iv_i_int, okt_i, iv_s_list, iv_s_tuple, iv_s_bool, iv_s_str, iv_s_int, okt_s, iv_t_list, iv_t_tuple, iv_t_bool, iv_t_str, iv_t_int, okt_t, iv_r_list, iv_r_tuple, iv_r_bool, iv_r_str, iv_r_int, tru_b, tru_i, tru_n, tru_t, Option.map_some, Option.map_none, List.map_cons, List.map_nil, List.length_cons, List.length_nil, List.set_cons_zero, List.set_cons_succ, List.cons_append, List.nil_append, List.replicate, Nat.reduceAdd, Nat.reduceSub, Nat.reduceLeDiff, true_and, and_true, decide_eq_true_eq, reduceIte, Bool.false_eq_true, Bool.not_true, Bool.not_false, decide_true, decide_false]
          rw [e]
          rfl
      · rw [if_neg c2]
        rw [if_neg (fun z => c2 z.1)] at e
        try simp -dsimp only [at0, at1, at2, at3, at4, at5, at6, wp_fn, s_nil, s_brk, s_cnt, s_expr, s_ret, s_retN, s_if, s_asn, s_par, s_asg, g_nm, g_nil, g_cons, g_tupT, g_subW, w_v0, w_vS, w_c, w_op, w_un, w_anil, w_acons, w_tup, w_lst, w_call, w_callU, w_isi, w_meth, w_tru, w_bool, w_notS, w_andS, w_orS, w_ifx, w_andV, w_orV, w_notV, w_chain, wp_ok, wp_bad, wp_some, wp_none, wp_liftif, wp_if, asB_b, wp_noex, add_ii, sub_ii, mul_ii, fdiv_ii, mod_ii, pow_ii, neg_i, cmp_ii, lt_ii, le_ii, gt_ii, ge_ii, le_cc, muls_ii, muls_si, ins_cs, iadd_ii, isub_ii, w_onone, w_osome, w_sl, sl_s, sl_t, s_aug, eq_ss, len_s, ix_s, add_ss, str_s, tuple_t, list_t, is_n, not_n, non_n, non_i, non_b, non_s, non_t, non_r, abs_i, max_ii, min_ii, int_i, int_b, gcd_ii, len_t, ix_t, eq_v, ne_v, eq_ii, eq_bb, eq_nn, eq_in, eq_ni, iv_n_list, iv_n_tuple, iv_n_bool, iv_n_str, iv_n_int, okt_n, iv_b_list, iv_b_tuple, iv_b_bool, iv_b_str, iv_b_int, okt_b, iv_i_list, iv_i_tuple, iv_i_bool, iv_i_str, iv_i_int, okt_i, iv_s_list, iv_s_tuple, iv_s_bool, iv_s_str, iv_s_int, okt_s, iv_t_list, iv_t_tuple, iv_t_bool, iv_t_str, iv_t_int, okt_t, iv_r_list, iv_r_tuple, iv_r_bool, iv_r_str, iv_r_int, tru_b, tru_i, tru_n, tru_t, Option.map_some, Option.map_none, List.map_cons, List.map_nil, List.length_cons, List.length_nil, List.set_cons_zero, List.set_cons_succ, List.cons_append, List.nil_append, List.replicate, Nat.reduceAdd, Nat.reduceSub, Nat.reduceLeDiff, true_and, and_true, decide_eq_true_eq, reduceIte, Bool.false_eq_true, Bool.not_true, Bool.not_false, decide_true, decide_false]
        rw [if_pos (.inl (.inl (by omega)))]
        try simp -dsimp only [at0, at1, at2, at3, at4, at5, at6, wp_fn, s_nil, s_brk, s_cnt, s_expr, s_ret, s_retN, s_if, s_asn, s_par, s_asg, g_nm, g_nil, g_cons, g_tupT, g_subW, w_v0, w_vS, w_c, w_op, w_un, w_anil, w_acons, w_tup, w_lst, w_call, w_callU, w_isi, w_meth, w_tru, w_bool, w_notS, w_andS, w_orS, w_ifx, w_andV, w_orV, w_notV, w_chain, wp_ok, wp_bad, wp_some, wp_none, wp_liftif, wp_if, asB_b, wp_noex, add_ii, sub_ii, mul_ii, fdiv_ii, mod_ii, pow_ii, neg_i, cmp_ii, lt_ii, le_ii, gt_ii, ge_ii, le_cc, muls_ii, muls_si, ins_cs, iadd_ii, isub_ii, w_onone, w_osome, w_sl, sl_s, sl_t, s_aug, eq_ss, len_s, ix_s, add_ss, str_s, tuple_t, list_t, is_n, not_n, non_n, non_i, non_b, non_s, non_t, non_r, abs_i, max_ii, min_ii, int_i, int_b, gcd_ii, len_t, ix_t, eq_v, ne_v, eq_ii, eq_bb, eq_nn, eq_in, eq_ni, iv_n_list, iv_n_tuple, iv_n_bool, iv_n_str, iv_n_int, okt_n, iv_b_list, iv_b_tuple, iv_b_bool, iv_b_str, iv_b_int, okt_b, iv_i_list, iv_i_tuple, iv_i_bool, iv_i_str, iv_i_int, okt_i, iv_s_list, iv_s_tuple, iv_s_bool, iv_s_str, iv_s_int, okt_s, iv_t_list, iv_t_tuple, iv_t_bool, iv_t_str, iv_t_int, okt_t, iv_r_list, iv_r_tuple, iv_r_bool, iv_r_str, iv_r_int, tru_b, tru_i, tru_n, tru_t, Option.map_some, Option.map_none, List.map_cons, List.map_nil, List.length_cons, List.length_nil, List.set_cons_zero, List.set_cons_succ, List.cons_append, List.nil_append, List.replicate, Nat.reduceAdd, Nat.reduceSub, Nat.reduceLeDiff, true_and, and_true, decide_eq_true_eq, reduceIte, Bool.false_eq_true, Bool.not_true, Bool.not_false, decide_true, decide_false]
        rw [e]
        unfold rdV
        simp
        omega
    · rw [if_neg c]
      rw [if_neg c] at e
      try simp -dsimp only [at0, at1, at2, at3, at4, at5, at6, wp_fn, s_nil, s_brk, s_cnt, s_expr, s_ret, s_retN, s_if, s_asn, s_par, s_asg, g_nm, g_nil, g_cons, g_tupT, g_subW, w_v0, w_vS, w_c, w_op, w_un, w_anil, w_acons, w_tup, w_lst, w_call, w_callU, w_isi, w_meth, w_tru, w_bool, w_notS, w_andS, w_orS, w_ifx, w_andV, w_orV, w_notV, w_chain, wp_ok, wp_bad, wp_some, wp_none, wp_liftif, wp_if, asB_b, wp_noex, add_ii, sub_ii, mul_ii, fdiv_ii, mod_ii, pow_ii, neg_i, cmp_ii, lt_ii, le_ii, gt_ii, ge_ii, le_cc, muls_ii, muls_si, ins_cs, iadd_ii, isub_ii, w_onone, w_osome, w_sl, sl_s, sl_t, s_aug, eq_ss, len_s, ix_s, add_ss, str_s, tuple_t, list_t, is_n, not_n, non_n, non_i, non_b, non_s, non_t, non_r, abs_i, max_ii, min_ii, int_i, int_b, gcd_ii, len_t, ix_t, eq_v, ne_v, eq_ii, eq_bb, eq_nn, eq_in, eq_ni, iv_n_list, iv_n_tuple, iv_n_bool, iv_n_str, iv_n_int, okt_n, iv_b_list, iv_b_tuple, iv_b_bool, iv_b_str, iv_b_int, okt_b, iv_i_list, iv_i_tuple, iv_i_bool, iv_i_str, iv_i_int, okt_i, iv_s_list, iv_s_tuple, iv_s_bool, iv_s_str, iv_s_int, okt_s, iv_t_list, iv_t_tuple, iv_t_bool, iv_t_str, iv_t_int, okt_t, iv_r_list, iv_r_tuple, iv_r_bool, iv_r_str, iv_r_int, tru_b, tru_i, tru_n, tru_t, Option.map_some, Option.map_none, List.map_cons, List.map_nil, List.length_cons, List.length_nil, List.set_cons_zero, List.set_cons_succ, List.cons_append, List.nil_append, List.replicate, Nat.reduceAdd, Nat.reduceSub, Nat.reduceLeDiff, true_and, and_true, decide_eq_true_eq, reduceIte, Bool.false_eq_true, Bool.not_true, Bool.not_false, decide_true, decide_false]
      rw [s_seq]
      try simp -dsimp only [at0, at1, at2, at3, at4, at5, at6, wp_fn, s_nil, s_brk, s_cnt, s_expr, s_ret, s_retN, s_if, s_asn, s_par, s_asg, g_nm, g_nil, g_cons, g_tupT, g_subW, w_v0, w_vS, w_c, w_op, w_un, w_anil, w_acons, w_tup, w_lst, w_call, w_callU, w_isi, w_meth, w_tru, w_bool, w_notS, w_andS, w_orS, w_ifx, w_andV, w_orV, w_notV, w_chain, wp_ok, wp_bad, wp_some, wp_none, wp_liftif, wp_if, asB_b, wp_noex, add_ii, sub_ii, mul_ii, fdiv_ii, mod_ii, pow_ii, neg_i, cmp_ii, lt_ii, le_ii, gt_ii, ge_ii, le_cc, muls_ii, muls_si, ins_cs, iadd_ii, isub_ii, w_onone, w_osome, w_sl, sl_s, sl_t, s_aug, eq_ss, len_s, ix_s, add_ss, str_s, tuple_t, list_t, is_n, not_n, non_n, non_i, non_b, non_s, non_t, non_r, abs_i, max_ii, min_ii, int_i, int_b, gcd_ii, len_t, ix_t, eq_v, ne_v, eq_ii, eq_bb, eq_nn, eq_in, eq_ni, iv_n_list, iv_n_tuple, iv_n_bool, iv_n_str, iv_n_int, okt_n, iv_b_list, iv_b_tuple, iv_b_bool, iv_b_str, iv_b_int, okt_b, iv_i_list, iv_i_tuple, iv_i_bool, iv_i_str, iv_i_int, okt_i, iv_s_list, iv_s_tuple, iv_s_bool, iv_s_str, iv_s_int, okt_s, iv_t_list, iv_t_tuple, iv_t_bool, iv_t_str, iv_t_int, okt_t, iv_r_list, iv_r_tuple, iv_r_bool, iv_r_str, iv_r_int, tru_b, tru_i, tru_n, tru_t, Option.map_some, Option.map_none, List.map_cons, List.map_nil, List.length_cons, List.length_nil, List.set_cons_zero, List.set_cons_succ, List.cons_append, List.nil_append, List.replicate, Nat.reduceAdd, Nat.reduceSub, Nat.reduceLeDiff, true_and, and_true, decide_eq_true_eq, reduceIte, Bool.false_eq_true, Bool.not_true, Bool.not_false, decide_true, decide_false]
      rw [if_pos (.inl (.inl (by omega)))]
      try simp -dsimp only [at0, at1, at2, at3, at4, at5, at6, wp_fn, s_nil, s_brk, s_cnt, s_expr, s_ret, s_retN, s_if, s_asn, s_par, s_asg, g_nm, g_nil, g_cons, g_tupT, g_subW, w_v0, w_vS, w_c, w_op, w_un, w_anil, w_acons, w_tup, w_lst, w_call, w_callU, w_isi, w_meth, w_tru, w_bool, w_notS, w_andS, w_orS, w_ifx, w_andV, w_orV, w_notV, w_chain, wp_ok, wp_bad, wp_some, wp_none, wp_liftif, wp_if, asB_b, wp_noex, add_ii, sub_ii, mul_ii, fdiv_ii, mod_ii, pow_ii, neg_i, cmp_ii, lt_ii, le_ii, gt_ii, ge_ii, le_cc, muls_ii, muls_si, ins_cs, iadd_ii, isub_ii, w_onone, w_osome, w_sl, sl_s, sl_t, s_aug, eq_ss, len_s, ix_s, add_ss, str_s, tuple_t, list_t, is_n, not_n, non_n, non_i, non_b, non_s, non_t, non_r, abs_i, max_ii, min_ii, int_i, int_b, gcd_ii, len_t, ix_t, eq_v, ne_v, eq_ii, eq_bb, eq_nn, eq_in, eq_ni, iv_n_list, iv_n_tuple, iv_n_bool, iv_n_str, iv_n_int, okt_n, iv_b_list, iv_b_tuple, iv_b_bool, iv_b_str, iv_b_int, okt_b, iv_i_list, iv_i_tuple, iv_i_bool, iv_i_str, iv_i_int, okt_i, iv_s_list, iv_s_tuple, iv_s_bool, iv_s_str, iv_s_int, okt_s, iv_t_list, iv_t_tuple, iv_t_bool, iv_t_str, iv_t_int, okt_t, iv_r_list, iv_r_tuple, iv_r_bool, iv_r_str, iv_r_int, tru_b, tru_i, tru_n, tru_t, Option.map_some, Option.map_none, List.map_cons, List.map_nil, List.length_cons, List.length_nil, List.set_cons_zero, List.set_cons_succ, List.cons_append, List.nil_append, List.replicate, Nat.reduceAdd, Nat.reduceSub, Nat.reduceLeDiff, true_and, and_true, decide_eq_true_eq, reduceIte, Bool.false_eq_true, Bool.not_true, Bool.not_false, decide_true, decide_false]
      have e1 : imulv (.int w) (.int 128) m = some (.int (w * 128), m) := by
        unfold imulv
        dsimp only
        rw [if_pos (.inr (by decide))]
      rw [e1]
      try simp -dsimp only [at0, at1, at2, at3, at4, at5, at6, wp_fn, s_nil, s_brk, s_cnt, s_expr, s_ret, s_retN, s_if, s_asn, s_par, s_asg, g_nm, g_nil, g_cons, g_tupT, g_subW, w_v0, w_vS, w_c, w_op, w_un, w_anil, w_acons, w_tup, w_lst, w_call, w_callU, w_isi, w_meth, w_tru, w_bool, w_notS, w_andS, w_orS, w_ifx, w_andV, w_orV, w_notV, w_chain, wp_ok, wp_bad, wp_some, wp_none, wp_liftif, wp_if, asB_b, wp_noex, add_ii, sub_ii, mul_ii, fdiv_ii, mod_ii, pow_ii, neg_i, cmp_ii, lt_ii, le_ii, gt_ii, ge_ii, le_cc, muls_ii, muls_si, ins_cs, iadd_ii, isub_ii, w_onone, w_osome, w_sl, sl_s, sl_t, s_aug, eq_ss, len_s, ix_s, add_ss, str_s, tuple_t, list_t, is_n, not_n, non_n, non_i, non_b, non_s, non_t, non_r, abs_i, max_ii, min_ii, int_i, int_b, gcd_ii, len_t, ix_t, eq_v, ne_v, eq_ii, eq_bb, eq_nn, eq_in, eq_ni, iv_n_list, iv_n_tuple, iv_n_bool, iv_n_str, iv_n_int, okt_n, iv_b_list, iv_b_tuple, iv_b_bool, iv_b_str, iv_b_int, okt_b, iv_i_list, iv_i_tuple, iv_i_bool, iv_i_str, iv_i_int, okt_i, iv_s_list, iv_s_tuple, iv_s_bool, iv_s_str, iv_s_int, okt_s, iv_t_list, iv_t_tuple, iv_t_bool, iv_t_str, iv_t_int, okt_t, iv_r_list, iv_r_tuple, iv_r_bool, iv_r_str, iv_r_int, tru_b, tru_i, tru_n, tru_t, Option.map_some, Option.map_none, List.map_cons, List.map_nil, List.length_cons, List.length_nil, List.set_cons_zero, List.set_cons_succ, List.cons_append, List.nil_append, List.replicate, Nat.reduceAdd, Nat.reduceSub, Nat.reduceLeDiff, true_and, and_true, decide_eq_true_eq, reduceIte, Bool.false_eq_true, Bool.not_true, Bool.not_false, decide_true, decide_false]
      refine ⟨_, _, _, _, rfl, ?_⟩
      rw [e, decide_eq_false (by omega)]
      cases rdL false (num + (x - 128) * w) (w * 128) (ds.drop (a + (j + 1))) with
      | none => rfl
      | some p => simp; omega
  · rintro l m ⟨num, w, x4, x5, rfl, rfl, e⟩
    have e2 : ds.drop (a + (((ds.length : Nat) : Int) - ((a : Nat) : Int)).toNat) = [] := List.drop_of_length_le (by omega)
    rw [e2] at e
    try simp -dsimp only [at0, at1, at2, at3, at4, at5, at6, wp_fn, s_nil, s_brk, s_cnt, s_expr, s_ret, s_retN, s_if, s_asn, s_par, s_asg, g_nm, g_nil, g_cons, g_tupT, g_subW, w_v0, w_vS, w_c, w_op, w_un, w_anil, w_acons, w_tup, w_lst, w_call, w_callU, w_isi, w_meth, w_tru, w_bool, w_notS, w_andS, w_orS, w_ifx, w_andV, w_orV, w_notV, w_chain, wp_ok, wp_bad, wp_some, wp_none, wp_liftif, wp_if, asB_b, wp_noex, add_ii, sub_ii, mul_ii, fdiv_ii, mod_ii, pow_ii, neg_i, cmp_ii, lt_ii, le_ii, gt_ii, ge_ii, le_cc, muls_ii, muls_si, ins_cs, iadd_ii, isub_ii, w_onone, w_osome, w_sl, sl_s, sl_t, s_aug, eq_ss, len_s, ix_s, add_ss, str_s, tuple_t, list_t, is_n, not_n, non_n, non_i, non_b, non_s, non_t, non_r, abs_i, max_ii, min_ii, int_i, int_b, gcd_ii, len_t, ix_t, eq_v, ne_v, eq_ii, eq_bb, eq_nn, eq_in, eq_ni, iv_n_list, iv_n_tuple, iv_n_bool, iv_n_str, iv_n_int, okt_n, iv_b_list, iv_b_tuple, iv_b_bool, iv_b_str, iv_b_int, okt_b, iv_i_list, iv_i_tuple, iv_i_bool, iv_i_str, iv_i_int, okt_i, iv_s_list, iv_s_tuple, iv_s_bool, iv_s_str, iv_s_int, okt_s, iv_t_list, iv_t_tuple, iv_t_bool, iv_t_str, iv_t_int, okt_t, iv_r_list, iv_r_tuple, iv_r_bool, iv_r_str, iv_r_int, tru_b, tru_i, tru_n, tru_t, Option.map_some, Option.map_none, List.map_cons, List.map_nil, List.length_cons, List.length_nil, List.set_cons_zero, List.set_cons_succ, List.cons_append, List.nil_append, List.replicate, Nat.reduceAdd, Nat.reduceSub, Nat.reduceLeDiff, true_and, and_true, decide_eq_true_eq, reduceIte, Bool.false_eq_true, Bool.not_true, Bool.not_false, decide_true, decide_false]
    rw [e]
    rfl
/-- the sum of a body -/
def chk : Int → List Int → Int
  | t, [] => t
  | t, b :: r => chk ((139 * t + b) % 65521) r
theorem chk_snoc {t b : Int} : ∀ {xs : List Int} {t : Int}, chk t (xs ++ [b]) = (139 * chk t xs + b) % 65521
  | [], _ => rfl
  | x :: xs, t => by
    show chk _ (xs ++ [b]) = (139 * chk _ xs + b) % 65521
    exact chk_snoc (t := t)
theorem chk_bd : ∀ {xs : List Int} {t : Int}, 0 ≤ t → t < 65521 → 0 ≤ chk t xs ∧ chk t xs < 65521
  | [], _, h0, h1 => ⟨h0, h1⟩
  | x :: xs, t, h0, h1 => chk_bd (xs := xs) (by omega) (by omega)
theorem sumbody_ok {m : MH} {d : Nat} {ds : List Int} (h : m[d]? = some (.lst (ds.map .int))) : WP (f_sum_of_body [.ref d] m) (fun x m' => x = .int (chk 9 ds) ∧ m' = m) NoE := by
  unfold f_sum_of_body b_sum_of_body
  try simp -dsimp only [at0, at1, at2, at3, at4, at5, at6, wp_fn, s_nil, s_brk, s_cnt, s_expr, s_ret, s_retN, s_if, s_asn, s_par, s_asg, g_nm, g_nil, g_cons, g_tupT, g_subW, w_v0, w_vS, w_c, w_op, w_un, w_anil, w_acons, w_tup, w_lst, w_call, w_callU, w_isi, w_meth, w_tru, w_bool, w_notS, w_andS, w_orS, w_ifx, w_andV, w_orV, w_notV, w_chain, wp_ok, wp_bad, wp_some, wp_none, wp_liftif, wp_if, asB_b, wp_noex, add_ii, sub_ii, mul_ii, fdiv_ii, mod_ii, pow_ii, neg_i, cmp_ii, lt_ii, le_ii, gt_ii, ge_ii, le_cc, muls_ii, muls_si, ins_cs, iadd_ii, isub_ii, w_onone, w_osome, w_sl, sl_s, sl_t, s_aug, eq_ss, len_s, ix_s, add_ss, str_s, tuple_t, list_t, is_n, not_n, non_n, non_i, non_b, non_s, non_t, non_r, abs_i, max_ii, min_ii, int_i, int_b, gcd_ii, len_t, ix_t, eq_v, ne_v, eq_ii, eq_bb, eq_nn, eq_in, eq_ni, iv_n_list, iv_n_tuple, iv_n_bool, iv_n_str, iv_n_int, okt_n, iv_b_list, iv_b_tuple, iv_b_bool, iv_b_str, iv_b_int, okt_b, iv_i_list, iv_i_tuple, iv_i_bool, iv_i_str, iv_i_int, okt_i, iv_s_list, iv_s_tuple, iv_s_bool, iv_s_str, iv_s_int, okt_s, iv_t_list, iv_t_tuple, iv_t_bool, iv_t_str, iv_t_int, okt_t, iv_r_list, iv_r_tuple, iv_r_bool, iv_r_str, iv_r_int, tru_b, tru_i, tru_n, tru_t, Option.map_some, Option.map_none, List.map_cons, List.map_nil, List.length_cons, List.length_nil, List.set_cons_zero, List.set_cons_succ, List.cons_append, List.nil_append, List.replicate, Nat.reduceAdd, Nat.reduceSub, Nat.reduceLeDiff, true_and, and_true, decide_eq_true_eq, reduceIte, Bool.false_eq_true, Bool.not_true, Bool.not_false, decide_true, decide_false]
  rw [s_seq]
  try simp -dsimp only [at0, at1, at2, at3, at4, at5, at6, wp_fn, s_nil, s_brk, s_cnt, s_expr, s_ret, s_retN, s_if, s_asn, s_par, s_asg, g_nm, g_nil, g_cons, g_tupT, g_subW, w_v0, w_vS, w_c, w_op, w_un, w_anil, w_acons, w_tup, w_lst, w_call, w_callU, w_isi, w_meth, w_tru, w_bool, w_notS, w_andS, w_orS, w_ifx, w_andV, w_orV, w_notV, w_chain, wp_ok, wp_bad, wp_some, wp_none, wp_liftif, wp_if, asB_b, wp_noex, add_ii, sub_ii, mul_ii, fdiv_ii, mod_ii, pow_ii, neg_i, cmp_ii, lt_ii, le_ii, gt_ii, ge_ii, le_cc, muls_ii, muls_si, ins_cs, iadd_ii, isub_ii, w_onone, w_osome, w_sl, sl_s, sl_t, s_aug, eq_ss, len_s, ix_s, add_ss, str_s, tuple_t, list_t, is_n, not_n, non_n, non_i, non_b, non_s, non_t, non_r, abs_i, max_ii, min_ii, int_i, int_b, gcd_ii, len_t, ix_t, eq_v, ne_v, eq_ii, eq_bb, eq_nn, eq_in, eq_ni, iv_n_list, iv_n_tuple, iv_n_bool, iv_n_str, iv_n_int, okt_n, iv_b_list, iv_b_tuple, iv_b_bool, iv_b_str, iv_b_int, okt_b, iv_i_list, iv_i_tuple, iv_i_bool, iv_i_str, iv_i_int, okt_i, iv_s_list, iv_s_tuple, iv_s_bool, iv_s_str, iv_s_int, okt_s, iv_t_list, iv_t_tuple, iv_t_bool, iv_t_str, iv_t_int, okt_t, iv_r_list, iv_r_tuple, iv_r_bool, iv_r_str, iv_r_int, tru_b, tru_i, tru_n, tru_t, Option.map_some, Option.map_none, List.map_cons, List.map_nil, List.length_cons, List.length_nil, List.set_cons_zero, List.set_cons_succ, List.cons_append, List.nil_append, List.replicate, Nat.reduceAdd, Nat.reduceSub, Nat.reduceLeDiff, true_and, and_true, decide_eq_true_eq, reduceIte, Bool.false_eq_true, Bool.not_true, Bool.not_false, decide_true, decide_false]
  rw [s_seq]
  refine s_forLW ?_
  try simp -dsimp only [at0, at1, at2, at3, at4, at5, at6, wp_fn, s_nil, s_brk, s_cnt, s_expr, s_ret, s_retN, s_if, s_asn, s_par, s_asg, g_nm, g_nil, g_cons, g_tupT, g_subW, w_v0, w_vS, w_c, w_op, w_un, w_anil, w_acons, w_tup, w_lst, w_call, w_callU, w_isi, w_meth, w_tru, w_bool, w_notS, w_andS, w_orS, w_ifx, w_andV, w_orV, w_notV, w_chain, wp_ok, wp_bad, wp_some, wp_none, wp_liftif, wp_if, asB_b, wp_noex, add_ii, sub_ii, mul_ii, fdiv_ii, mod_ii, pow_ii, neg_i, cmp_ii, lt_ii, le_ii, gt_ii, ge_ii, le_cc, muls_ii, muls_si, ins_cs, iadd_ii, isub_ii, w_onone, w_osome, w_sl, sl_s, sl_t, s_aug, eq_ss, len_s, ix_s, add_ss, str_s, tuple_t, list_t, is_n, not_n, non_n, non_i, non_b, non_s, non_t, non_r, abs_i, max_ii, min_ii, int_i, int_b, gcd_ii, len_t, ix_t, eq_v, ne_v, eq_ii, eq_bb, eq_nn, eq_in, eq_ni, iv_n_list, iv_n_tuple, iv_n_bool, iv_n_str, iv_n_int, okt_n, iv_b_list, iv_b_tuple, iv_b_bool, iv_b_str, iv_b_int, okt_b, iv_i_list, iv_i_tuple, iv_i_bool, iv_i_str, iv_i_int, okt_i, iv_s_list, iv_s_tuple, iv_s_bool, iv_s_str, iv_s_int, okt_s, iv_t_list, iv_t_tuple, iv_t_bool, iv_t_str, iv_t_int, okt_t, iv_r_list, iv_r_tuple, iv_r_bool, iv_r_str, iv_r_int, tru_b, tru_i, tru_n, tru_t, Option.map_some, Option.map_none, List.map_cons, List.map_nil, List.length_cons, List.length_nil, List.set_cons_zero, List.set_cons_succ, List.cons_append, List.nil_append, List.replicate, Nat.reduceAdd, Nat.reduceSub, Nat.reduceLeDiff, true_and, and_true, decide_eq_true_eq, reduceIte, Bool.false_eq_true, Bool.not_true, Bool.not_false, decide_true, decide_false]
  refine ⟨_, _, rfl, seq_of_lst h, fun j l m' => ∃ x2, l = [some (.ref d), some (.int (chk 9 (ds.take j))), x2] ∧ m' = m, ⟨_, rfl, rfl⟩, ?_, ?_, ?_⟩
  · rintro j l m' ⟨x2, rfl, rfl⟩
    exact seq_of_lst h
  · rintro j x l m' hx ⟨x2, rfl, rfl⟩
    rw [List.getElem?_map] at hx
    cases es : ds[j]? with
    | none => rw [es] at hx; cases hx
    | some b =>
    rw [es] at hx
    cases hx
    have et : ds.take (j + 1) = ds.take j ++ [b] := by rw [List.take_succ, es]; rfl
    unfold sum_of_body_l1
    try simp -dsimp only [at0, at1, at2, at3, at4, at5, at6, wp_fn, s_nil, s_brk, s_cnt, s_expr, s_ret, s_retN, s_if, s_asn, s_par, s_asg, g_nm, g_nil, g_cons, g_tupT, g_subW, w_v0, w_vS, w_c, w_op, w_un, w_anil, w_acons, w_tup, w_lst, w_call, w_callU, w_isi, w_meth, w_tru, w_bool, w_notS, w_andS, w_orS, w_ifx, w_andV, w_orV, w_notV, w_chain, wp_ok, wp_bad, wp_some, wp_none, wp_liftif, wp_if, asB_b, wp_noex, add_ii, sub_ii, mul_ii, fdiv_ii, mod_ii, pow_ii, neg_i, cmp_ii, lt_ii, le_ii, gt_ii, ge_ii, le_cc, muls_ii, muls_si, ins_cs, iadd_ii, isub_ii, w_onone, w_osome, w_sl, sl_s, sl_t, s_aug, eq_ss, len_s, ix_s, add_ss, str_s, tuple_t, list_t, is_n, not_n, non_n, non_i, non_b, non_s, non_t, non_r, abs_i, max_ii, min_ii, int_i, int_b, gcd_ii, len_t, ix_t, eq_v, ne_v, eq_ii, eq_bb, eq_nn, eq_in, eq_ni, iv_n_list, iv_n_tuple, iv_n_bool, iv_n_str, iv_n_int, okt_n, iv_b_list, iv_b_tuple, iv_b_bool, iv_b_str, iv_b_int, okt_b, iv_i_list, iv_i_tuple, iv_i_bool, iv_i_str, iv_i_int, okt_i, iv_s_list, iv_s_tuple, iv_s_bool, iv_s_str, iv_s_int, okt_s, iv_t_list, iv_t_tuple, iv_t_bool, iv_t_str, iv_t_int, okt_t, iv_r_list, iv_r_tuple, iv_r_bool, iv_r_str, iv_r_int, tru_b, tru_i, tru_n, tru_t, Option.map_some, Option.map_none, List.map_cons, List.map_nil, List.length_cons, List.length_nil, List.set_cons_zero, List.set_cons_succ, List.cons_append, List.nil_append, List.replicate, Nat.reduceAdd, Nat.reduceSub, Nat.reduceLeDiff, true_and, and_true, decide_eq_true_eq, reduceIte, Bool.false_eq_true, Bool.not_true, Bool.not_false, decide_true, decide_false]
    rw [if_pos (.inl (.inl (by decide)))]
    try simp -dsimp only [at0, at1, at2, at3, at4, at5, at6, wp_fn, s_nil, s_brk, s_cnt, s_expr, s_ret, s_retN, s_if, s_asn, s_par, s_asg, g_nm, g_nil, g_cons, g_tupT, g_subW, w_v0, w_vS, w_c, w_op, w_un, w_anil, w_acons, w_tup, w_lst, w_call, w_callU, w_isi, w_meth, w_tru, w_bool, w_notS, w_andS, w_orS, w_ifx, w_andV, w_orV, w_notV, w_chain, wp_ok, wp_bad, wp_some, wp_none, wp_liftif, wp_if, asB_b, wp_noex, add_ii, sub_ii, mul_ii, fdiv_ii, mod_ii, pow_ii, neg_i, cmp_ii, lt_ii, le_ii, gt_ii, ge_ii, le_cc, muls_ii, muls_si, ins_cs, iadd_ii, isub_ii, w_onone, w_osome, w_sl, sl_s, sl_t, s_aug, eq_ss, len_s, ix_s, add_ss, str_s, tuple_t, list_t, is_n, not_n, non_n, non_i, non_b, non_s, non_t, non_r, abs_i, max_ii, min_ii, int_i, int_b, gcd_ii, len_t, ix_t, eq_v, ne_v, eq_ii, eq_bb, eq_nn, eq_in, eq_ni, iv_n_list, iv_n_tuple, iv_n_bool, iv_n_str, iv_n_int, okt_n, iv_b_list, iv_b_tuple, iv_b_bool, iv_b_str, iv_b_int, okt_b, iv_i_list, iv_i_tuple, iv_i_bool, iv_i_str, iv_i_int, okt_i, iv_s_list, iv_s_tuple, iv_s_bool, iv_s_str, iv_s_int, okt_s, iv_t_list, iv_t_tuple, iv_t_bool, iv_t_str, iv_t_int, okt_t, iv_r_list, iv_r_tuple, iv_r_bool, iv_r_str, iv_r_int, tru_b, tru_i, tru_n, tru_t, Option.map_some, Option.map_none, List.map_cons, List.map_nil, List.length_cons, List.length_nil, List.set_cons_zero, List.set_cons_succ, List.cons_append, List.nil_append, List.replicate, Nat.reduceAdd, Nat.reduceSub, Nat.reduceLeDiff, true_and, and_true, decide_eq_true_eq, reduceIte, Bool.false_eq_true, Bool.not_true, Bool.not_false, decide_true, decide_false]
    rw [if_pos (by decide), fmod_pos (by decide)]
    try simp -dsimp only [at0, at1, at2, at3, at4, at5, at6, wp_fn, s_nil, s_brk, s_cnt, s_expr, s_ret, s_retN, s_if, s_asn, s_par, s_asg, g_nm, g_nil, g_cons, g_tupT, g_subW, w_v0, w_vS, w_c, w_op, w_un, w_anil, w_acons, w_tup, w_lst, w_call, w_callU, w_isi, w_meth, w_tru, w_bool, w_notS, w_andS, w_orS, w_ifx, w_andV, w_orV, w_notV, w_chain, wp_ok, wp_bad, wp_some, wp_none, wp_liftif, wp_if, asB_b, wp_noex, add_ii, sub_ii, mul_ii, fdiv_ii, mod_ii, pow_ii, neg_i, cmp_ii, lt_ii, le_ii, gt_ii, ge_ii, le_cc, muls_ii, muls_si, ins_cs, iadd_ii, isub_ii, w_onone, w_osome, w_sl, sl_s, sl_t, s_aug, eq_ss, len_s, ix_s, add_ss, str_s, tuple_t, list_t, is_n, not_n, non_n, non_i, non_b, non_s, non_t, non_r, abs_i, max_ii, min_ii, int_i, int_b, gcd_ii, len_t, ix_t, eq_v, ne_v, eq_ii, eq_bb, eq_nn, eq_in, eq_ni, iv_n_list, iv_n_tuple, iv_n_bool, iv_n_str, iv_n_int, okt_n, iv_b_list, iv_b_tuple, iv_b_bool, iv_b_str, iv_b_int, okt_b, iv_i_list, iv_i_tuple, iv_i_bool, iv_i_str, iv_i_int, okt_i, iv_s_list, iv_s_tuple, iv_s_bool, iv_s_str, iv_s_int, okt_s, iv_t_list, iv_t_tuple, iv_t_bool, iv_t_str, iv_t_int, okt_t, iv_r_list, iv_r_tuple, iv_r_bool, iv_r_str, iv_r_int, tru_b, tru_i, tru_n, tru_t, Option.map_some, Option.map_none, List.map_cons, List.map_nil, List.length_cons, List.length_nil, List.set_cons_zero, List.set_cons_succ, List.cons_append, List.nil_append, List.replicate, Nat.reduceAdd, Nat.reduceSub, Nat.reduceLeDiff, true_and, and_true, decide_eq_true_eq, reduceIte, Bool.false_eq_true, Bool.not_true, Bool.not_false, decide_true, decide_false]
    rw [et, chk_snoc (t := 0)]
    exact ⟨_, rfl⟩
  · rintro l m' ⟨x2, rfl, rfl⟩
    rw [List.length_map, List.take_length]
    try simp -dsimp only [at0, at1, at2, at3, at4, at5, at6, wp_fn, s_nil, s_brk, s_cnt, s_expr, s_ret, s_retN, s_if, s_asn, s_par, s_asg, g_nm, g_nil, g_cons, g_tupT, g_subW, w_v0, w_vS, w_c, w_op, w_un, w_anil, w_acons, w_tup, w_lst, w_call, w_callU, w_isi, w_meth, w_tru, w_bool, w_notS, w_andS, w_orS, w_ifx, w_andV, w_orV, w_notV, w_chain, wp_ok, wp_bad, wp_some, wp_none, wp_liftif, wp_if, asB_b, wp_noex, add_ii, sub_ii, mul_ii, fdiv_ii, mod_ii, pow_ii, neg_i, cmp_ii, lt_ii, le_ii, gt_ii, ge_ii, le_cc, muls_ii, muls_si, ins_cs, iadd_ii, isub_ii, w_onone, w_osome, w_sl, sl_s, sl_t, s_aug, eq_ss, len_s, ix_s, add_ss, str_s, tuple_t, list_t, is_n, not_n, non_n, non_i, non_b, non_s, non_t, non_r, abs_i, max_ii, min_ii, int_i, int_b, gcd_ii, len_t, ix_t, eq_v, ne_v, eq_ii, eq_bb, eq_nn, eq_in, eq_ni, iv_n_list, iv_n_tuple, iv_n_bool, iv_n_str, iv_n_int, okt_n, iv_b_list, iv_b_tuple, iv_b_bool, iv_b_str, iv_b_int, okt_b, iv_i_list, iv_i_tuple, iv_i_bool, iv_i_str, iv_i_int, okt_i, iv_s_list, iv_s_tuple, iv_s_bool, iv_s_str, iv_s_int, okt_s, iv_t_list, iv_t_tuple, iv_t_bool, iv_t_str, iv_t_int, okt_t, iv_r_list, iv_r_tuple, iv_r_bool, iv_r_str, iv_r_int, tru_b, tru_i, tru_n, tru_t, Option.map_some, Option.map_none, List.map_cons, List.map_nil, List.length_cons, List.length_nil, List.set_cons_zero, List.set_cons_succ, List.cons_append, List.nil_append, List.replicate, Nat.reduceAdd, Nat.reduceSub, Nat.reduceLeDiff, true_and, and_true, decide_eq_true_eq, reduceIte, Bool.false_eq_true, Bool.not_true, Bool.not_false, decide_true, decide_false]
theorem lcheck_ok {m : MH} {d : Nat} {ds : List Int} (h : m[d]? = some (.lst (ds.map .int))) : WP (f_law_check [.ref d] m) (fun x m' => x = .int (chk 9 ds) ∧ m' = m) NoE := by
  unfold f_law_check b_law_check
  try simp -dsimp only [at0, at1, at2, at3, at4, at5, at6, wp_fn, s_nil, s_brk, s_cnt, s_expr, s_ret, s_retN, s_if, s_asn, s_par, s_asg, g_nm, g_nil, g_cons, g_tupT, g_subW, w_v0, w_vS, w_c, w_op, w_un, w_anil, w_acons, w_tup, w_lst, w_call, w_callU, w_isi, w_meth, w_tru, w_bool, w_notS, w_andS, w_orS, w_ifx, w_andV, w_orV, w_notV, w_chain, wp_ok, wp_bad, wp_some, wp_none, wp_liftif, wp_if, asB_b, wp_noex, add_ii, sub_ii, mul_ii, fdiv_ii, mod_ii, pow_ii, neg_i, cmp_ii, lt_ii, le_ii, gt_ii, ge_ii, le_cc, muls_ii, muls_si, ins_cs, iadd_ii, isub_ii, w_onone, w_osome, w_sl, sl_s, sl_t, s_aug, eq_ss, len_s, ix_s, add_ss, str_s, tuple_t, list_t, is_n, not_n, non_n, non_i, non_b, non_s, non_t, non_r, abs_i, max_ii, min_ii, int_i, int_b, gcd_ii, len_t, ix_t, eq_v, ne_v, eq_ii, eq_bb, eq_nn, eq_in, eq_ni, iv_n_list, iv_n_tuple, iv_n_bool, iv_n_str, iv_n_int, okt_n, iv_b_list, iv_b_tuple, iv_b_bool, iv_b_str, iv_b_int, okt_b, iv_i_list, iv_i_tuple, iv_i_bool, iv_i_str, iv_i_int, okt_i, iv_s_list, iv_s_tuple, iv_s_bool, iv_s_str, iv_s_int, okt_s, iv_t_list, iv_t_tuple, iv_t_bool, iv_t_str, iv_t_int, okt_t, iv_r_list, iv_r_tuple, iv_r_bool, iv_r_str, iv_r_int, tru_b, tru_i, tru_n, tru_t, Option.map_some, Option.map_none, List.map_cons, List.map_nil, List.length_cons, List.length_nil, List.set_cons_zero, List.set_cons_succ, List.cons_append, List.nil_append, List.replicate, Nat.reduceAdd, Nat.reduceSub, Nat.reduceLeDiff, true_and, and_true, decide_eq_true_eq, reduceIte, Bool.false_eq_true, Bool.not_true, Bool.not_false, decide_true, decide_false]
  rw [s_seq]
  try simp -dsimp only [at0, at1, at2, at3, at4, at5, at6, wp_fn, s_nil, s_brk, s_cnt, s_expr, s_ret, s_retN, s_if, s_asn, s_par, s_asg, g_nm, g_nil, g_cons, g_tupT, g_subW, w_v0, w_vS, w_c, w_op, w_un, w_anil, w_acons, w_tup, w_lst, w_call, w_callU, w_isi, w_meth, w_tru, w_bool, w_notS, w_andS, w_orS, w_ifx, w_andV, w_orV, w_notV, w_chain, wp_ok, wp_bad, wp_some, wp_none, wp_liftif, wp_if, asB_b, wp_noex, add_ii, sub_ii, mul_ii, fdiv_ii, mod_ii, pow_ii, neg_i, cmp_ii, lt_ii, le_ii, gt_ii, ge_ii, le_cc, muls_ii, muls_si, ins_cs, iadd_ii, isub_ii, w_onone, w_osome, w_sl, sl_s, sl_t, s_aug, eq_ss, len_s, ix_s, add_ss, str_s, tuple_t, list_t, is_n, not_n, non_n, non_i, non_b, non_s, non_t, non_r, abs_i, max_ii, min_ii, int_i, int_b, gcd_ii, len_t, ix_t, eq_v, ne_v, eq_ii, eq_bb, eq_nn, eq_in, eq_ni, iv_n_list, iv_n_tuple, iv_n_bool, iv_n_str, iv_n_int, okt_n, iv_b_list, iv_b_tuple, iv_b_bool, iv_b_str, iv_b_int, okt_b, iv_i_list, iv_i_tuple, iv_i_bool, iv_i_str, iv_i_int, okt_i, iv_s_list, iv_s_tuple, iv_s_bool, iv_s_str, iv_s_int, okt_s, iv_t_list, iv_t_tuple, iv_t_bool, iv_t_str, iv_t_int, okt_t, iv_r_list, iv_r_tuple, iv_r_bool, iv_r_str, iv_r_int, tru_b, tru_i, tru_n, tru_t, Option.map_some, Option.map_none, List.map_cons, List.map_nil, List.length_cons, List.length_nil, List.set_cons_zero, List.set_cons_succ, List.cons_append, List.nil_append, List.replicate, Nat.reduceAdd, Nat.reduceSub, Nat.reduceLeDiff, true_and, and_true, decide_eq_true_eq, reduceIte, Bool.false_eq_true, Bool.not_true, Bool.not_false, decide_true, decide_false]
  rw [s_seq]
  refine s_forLW ?_
  try simp -dsimp only [at0, at1, at2, at3, at4, at5, at6, wp_fn, s_nil, s_brk, s_cnt, s_expr, s_ret, s_retN, s_if, s_asn, s_par, s_asg, g_nm, g_nil, g_cons, g_tupT, g_subW, w_v0, w_vS, w_c, w_op, w_un, w_anil, w_acons, w_tup, w_lst, w_call, w_callU, w_isi, w_meth, w_tru, w_bool, w_notS, w_andS, w_orS, w_ifx, w_andV, w_orV, w_notV, w_chain, wp_ok, wp_bad, wp_some, wp_none, wp_liftif, wp_if, asB_b, wp_noex, add_ii, sub_ii, mul_ii, fdiv_ii, mod_ii, pow_ii, neg_i, cmp_ii, lt_ii, le_ii, gt_ii, ge_ii, le_cc, muls_ii, muls_si, ins_cs, iadd_ii, isub_ii, w_onone, w_osome, w_sl, sl_s, sl_t, s_aug, eq_ss, len_s, ix_s, add_ss, str_s, tuple_t, list_t, is_n, not_n, non_n, non_i, non_b, non_s, non_t, non_r, abs_i, max_ii, min_ii, int_i, int_b, gcd_ii, len_t, ix_t, eq_v, ne_v, eq_ii, eq_bb, eq_nn, eq_in, eq_ni, iv_n_list, iv_n_tuple, iv_n_bool, iv_n_str, iv_n_int, okt_n, iv_b_list, iv_b_tuple, iv_b_bool, iv_b_str, iv_b_int, okt_b, iv_i_list, iv_i_tuple, iv_i_bool, iv_i_str, iv_i_int, okt_i, iv_s_list, iv_s_tuple, iv_s_bool, iv_s_str, iv_s_int, okt_s, iv_t_list, iv_t_tuple, iv_t_bool, iv_t_str, iv_t_int, okt_t, iv_r_list, iv_r_tuple, iv_r_bool, iv_r_str, iv_r_int, tru_b, tru_i, tru_n, tru_t, Option.map_some, Option.map_none, List.map_cons, List.map_nil, List.length_cons, List.length_nil, List.set_cons_zero, List.set_cons_succ, List.cons_append, List.nil_append, List.replicate, Nat.reduceAdd, Nat.reduceSub, Nat.reduceLeDiff, true_and, and_true, decide_eq_true_eq, reduceIte, Bool.false_eq_true, Bool.not_true, Bool.not_false, decide_true, decide_false]
  refine ⟨_, _, rfl, seq_of_lst h, fun j l m' => ∃ x2, l = [some (.ref d), some (.int (chk 9 (ds.take j))), x2] ∧ m' = m, ⟨_, rfl, rfl⟩, ?_, ?_, ?_⟩
  · rintro j l m' ⟨x2, rfl, rfl⟩
    exact seq_of_lst h
  · rintro j x l m' hx ⟨x2, rfl, rfl⟩
    rw [List.getElem?_map] at hx
    cases es : ds[j]? with
    | none => rw [es] at hx; cases hx
    | some b =>
    rw [es] at hx
    cases hx
    have et : ds.take (j + 1) = ds.take j ++ [b] := by rw [List.take_succ, es]; rfl
    unfold law_check_l1
    try simp -dsimp only [at0, at1, at2, at3, at4, at5, at6, wp_fn, s_nil, s_brk, s_cnt, s_expr, s_ret, s_retN, s_if, s_asn, s_par, s_asg, g_nm, g_nil, g_cons, g_tupT, g_subW, w_v0, w_vS, w_c, w_op, w_un, w_anil, w_acons, w_tup, w_lst, w_call, w_callU, w_isi, w_meth, w_tru, w_bool, w_notS, w_andS, w_orS, w_ifx, w_andV, w_orV, w_notV, w_chain, wp_ok, wp_bad, wp_some, wp_none, wp_liftif, wp_if, asB_b, wp_noex, add_ii, sub_ii, mul_ii, fdiv_ii, mod_ii, pow_ii, neg_i, cmp_ii, lt_ii, le_ii, gt_ii, ge_ii, le_cc, muls_ii, muls_si, ins_cs, iadd_ii, isub_ii, w_onone, w_osome, w_sl, sl_s, sl_t, s_aug, eq_ss, len_s, ix_s, add_ss, str_s, tuple_t, list_t, is_n, not_n, non_n, non_i, non_b, non_s, non_t, non_r, abs_i, max_ii, min_ii, int_i, int_b, gcd_ii, len_t, ix_t, eq_v, ne_v, eq_ii, eq_bb, eq_nn, eq_in, eq_ni, iv_n_list, iv_n_tuple, iv_n_bool, iv_n_str, iv_n_int, okt_n, iv_b_list, iv_b_tuple, iv_b_bool, iv_b_str, iv_b_int, okt_b, iv_i_list, iv_i_tuple, iv_i_bool, iv_i_str, iv_i_int, okt_i, iv_s_list, iv_s_tuple, iv_s_bool, iv_s_str, iv_s_int, okt_s, iv_t_list, iv_t_tuple, iv_t_bool, iv_t_str, iv_t_int, okt_t, iv_r_list, iv_r_tuple, iv_r_bool, iv_r_str, iv_r_int, tru_b, tru_i, tru_n, tru_t, Option.map_some, Option.map_none, List.map_cons, List.map_nil, List.length_cons, List.length_nil, List.set_cons_zero, List.set_cons_succ, List.cons_append, List.nil_append, List.replicate, Nat.reduceAdd, Nat.reduceSub, Nat.reduceLeDiff, true_and, and_true, decide_eq_true_eq, reduceIte, Bool.false_eq_true, Bool.not_true, Bool.not_false, decide_true, decide_false]
    rw [if_pos (.inl (.inl (by decide)))]
    try simp -dsimp only [at0, at1, at2, at3, at4, at5, at6, wp_fn, s_nil, s_brk, s_cnt, s_expr, s_ret, s_retN, s_if, s_asn, s_par, s_asg, g_nm, g_nil, g_cons, g_tupT, g_subW, w_v0, w_vS, w_c, w_op, w_un, w_anil, w_acons, w_tup, w_lst, w_call, w_callU, w_isi, w_meth, w_tru, w_bool, w_notS, w_andS, w_orS, w_ifx, w_andV, w_orV, w_notV, w_chain, wp_ok, wp_bad, wp_some, wp_none, wp_liftif, wp_if, asB_b, wp_noex, add_ii, sub_ii, mul_ii, fdiv_ii, mod_ii, pow_ii, neg_i, cmp_ii, lt_ii, le_ii, gt_ii, ge_ii, le_cc, muls_ii, muls_si, ins_cs, iadd_ii, isub_ii, w_onone, w_osome, w_sl, sl_s, sl_t, s_aug, eq_ss, len_s, ix_s, add_ss, str_s, tuple_t, list_t, is_n, not_n, non_n, non_i, non_b, non_s, non_t, non_r, abs_i, max_ii, min_ii, int_i, int_b, gcd_ii, len_t, ix_t, eq_v, ne_v, eq_ii, eq_bb, eq_nn, eq_in, eq_ni, iv_n_list, iv_n_tuple, iv_n_bool, iv_n_str, iv_n_int, okt_n, iv_b_list, iv_b_tuple, iv_b_bool, iv_b_str, iv_b_int, okt_b, iv_i_list, iv_i_tuple, iv_i_bool, iv_i_str, iv_i_int, okt_i, iv_s_list, iv_s_tuple, iv_s_bool, iv_s_str, iv_s_int, okt_s, iv_t_list, iv_t_tuple, iv_t_bool, iv_t_str, iv_t_int, okt_t, iv_r_list, iv_r_tuple, iv_r_bool, iv_r_str, iv_r_int, tru_b, tru_i, tru_n, tru_t, Option.map_some, Option.map_none, List.map_cons, List.map_nil, List.length_cons, List.length_nil, List.set_cons_zero, List.set_cons_succ, List.cons_append, List.nil_append, List.replicate, Nat.reduceAdd, Nat.reduceSub, Nat.reduceLeDiff, true_and, and_true, decide_eq_true_eq, reduceIte, Bool.false_eq_true, Bool.not_true, Bool.not_false, decide_true, decide_false]
    rw [if_pos (by decide), fmod_pos (by decide)]
    try simp -dsimp only [at0, at1, at2, at3, at4, at5, at6, wp_fn, s_nil, s_brk, s_cnt, s_expr, s_ret, s_retN, s_if, s_asn, s_par, s_asg, g_nm, g_nil, g_cons, g_tupT, g_subW, w_v0, w_vS, w_c, w_op, w_un, w_anil, w_acons, w_tup, w_lst, w_call, w_callU, w_isi, w_meth, w_tru, w_bool, w_notS, w_andS, w_orS, w_ifx, w_andV, w_orV, w_notV, w_chain, wp_ok, wp_bad, wp_some, wp_none, wp_liftif, wp_if, asB_b, wp_noex, add_ii, sub_ii, mul_ii, fdiv_ii, mod_ii, pow_ii, neg_i, cmp_ii, lt_ii, le_ii, gt_ii, ge_ii, le_cc, muls_ii, muls_si, ins_cs, iadd_ii, isub_ii, w_onone, w_osome, w_sl, sl_s, sl_t, s_aug, eq_ss, len_s, ix_s, add_ss, str_s, tuple_t, list_t, is_n, not_n, non_n, non_i, non_b, non_s, non_t, non_r, abs_i, max_ii, min_ii, int_i, int_b, gcd_ii, len_t, ix_t, eq_v, ne_v, eq_ii, eq_bb, eq_nn, eq_in, eq_ni, iv_n_list, iv_n_tuple, iv_n_bool, iv_n_str, iv_n_int, okt_n, iv_b_list, iv_b_tuple, iv_b_bool, iv_b_str, iv_b_int, okt_b, iv_i_list, iv_i_tuple, iv_i_bool, iv_i_str, iv_i_int, okt_i, iv_s_list, iv_s_tuple, iv_s_bool, iv_s_str, iv_s_int, okt_s, iv_t_list, iv_t_tuple, iv_t_bool, iv_t_str, iv_t_int, okt_t, iv_r_list, iv_r_tuple, iv_r_bool, iv_r_str, iv_r_int, tru_b, tru_i, tru_n, tru_t, Option.map_some, Option.map_none, List.map_cons, List.map_nil, List.length_cons, List.length_nil, List.set_cons_zero, List.set_cons_succ, List.cons_append, List.nil_append, List.replicate, Nat.reduceAdd, Nat.reduceSub, Nat.reduceLeDiff, true_and, and_true, decide_eq_true_eq, reduceIte, Bool.false_eq_true, Bool.not_true, Bool.not_false, decide_true, decide_false]
    rw [et, chk_snoc (t := 0)]
    exact ⟨_, rfl⟩
  · rintro l m' ⟨x2, rfl, rfl⟩
    rw [List.length_map, List.take_length]
    try simp -dsimp only [at0, at1, at2, at3, at4, at5, at6, wp_fn, s_nil, s_brk, s_cnt, s_expr, s_ret, s_retN, s_if, s_asn, s_par, s_asg, g_nm, g_nil, g_cons, g_tupT, g_subW, w_v0, w_vS, w_c, w_op, w_un, w_anil, w_acons, w_tup, w_lst, w_call, w_callU, w_isi, w_meth, w_tru, w_bool, w_notS, w_andS, w_orS, w_ifx, w_andV, w_orV, w_notV, w_chain, wp_ok, wp_bad, wp_some, wp_none, wp_liftif, wp_if, asB_b, wp_noex, add_ii, sub_ii, mul_ii, fdiv_ii, mod_ii, pow_ii, neg_i, cmp_ii, lt_ii, le_ii, gt_ii, ge_ii, le_cc, muls_ii, muls_si, ins_cs, iadd_ii, isub_ii, w_onone, w_osome, w_sl, sl_s, sl_t, s_aug, eq_ss, len_s, ix_s, add_ss, str_s, tuple_t, list_t, is_n, not_n, non_n, non_i, non_b, non_s, non_t, non_r, abs_i, max_ii, min_ii, int_i, int_b, gcd_ii, len_t, ix_t, eq_v, ne_v, eq_ii, eq_bb, eq_nn, eq_in, eq_ni, iv_n_list, iv_n_tuple, iv_n_bool, iv_n_str, iv_n_int, okt_n, iv_b_list, iv_b_tuple, iv_b_bool, iv_b_str, iv_b_int, okt_b, iv_i_list, iv_i_tuple, iv_i_bool, iv_i_str, iv_i_int, okt_i, iv_s_list, iv_s_tuple, iv_s_bool, iv_s_str, iv_s_int, okt_s, iv_t_list, iv_t_tuple, iv_t_bool, iv_t_str, iv_t_int, okt_t, iv_r_list, iv_r_tuple, iv_r_bool, iv_r_str, iv_r_int, tru_b, tru_i, tru_n, tru_t, Option.map_some, Option.map_none, List.map_cons, List.map_nil, List.length_cons, List.length_nil, List.set_cons_zero, List.set_cons_succ, List.cons_append, List.nil_append, List.replicate, Nat.reduceAdd, Nat.reduceSub, Nat.reduceLeDiff, true_and, and_true, decide_eq_true_eq, reduceIte, Bool.false_eq_true, Bool.not_true, Bool.not_false, decide_true, decide_false]
/-! ## lists that are the same -/
theorem allO_mapM {α : Type} {f : PV → Option PyData} {h : α → PV} {g : α → PyData} : ∀ {ys : List α}, (∀ y ∈ ys, f (h y) = some (g y)) → allO ((ys.map h).map f) = some (ys.map g)
  | [], _ => rfl
  | y :: ys, e => by
    have ih := allO_mapM (ys := ys) fun z hz => e z (List.mem_cons_of_mem _ hz)
    rw [List.map_cons, List.map_cons, e y List.mem_cons_self, List.map_cons]
    unfold allO
    rw [ih]
    rfl
theorem eq_sameG {α : Type} {m : MH} {i j : Nat} {f : α → PV} {g : α → PyData} {ys : List α} (h1 : seq? m i = some (ys.map f)) (h2 : seq? m j = some (ys.map f)) (e : ∀ y ∈ ys, toD m 7 (f y) = some (g y)) (s2 : ∀ y ∈ ys, PyData.canLay0 (g y) = true) (s3 : ∀ y, PyData.depth (g y) ≤ 8) :
    SM.eqV m (.ref i) (.ref j) = some true := by
  have e1 : toD m 8 (.ref i) = some (.list (ys.map g)) := by
    show (match seq? m i with | some xs => (allO (xs.map (toD m 7))).map PyData.list | none => none) = _
    rw [h1]
    dsimp only
    rw [allO_mapM e]
    rfl
  have e2 : toD m 8 (.ref j) = some (.list (ys.map g)) := by
    show (match seq? m j with | some xs => (allO (xs.map (toD m 7))).map PyData.list | none => none) = _
    rw [h2]
    dsimp only
    rw [allO_mapM e]
    rfl
  have s4 : SeqAt.shaped (.list (ys.map g)) = true := shp (by simp [PyData.canLay0, lay_all ys s2]) (by have := dep_all (n := 8) s3 ys; simp [PyData.depth]; omega)
  have e0 : eqF (.ref i) (.ref j) = none := rfl
  unfold SM.eqV
  rw [e0]
  dsimp only
  unfold eqD
  rw [e1, e2]
  dsimp only
  rw [if_pos ⟨s4, s4⟩, SeqAt.eqv_refl _ (by simp [PyData.canLay0, lay_all ys s2])]
theorem eq_ints {m : MH} {i j : Nat} {ns : List Int} (h1 : seq? m i = some (ns.map .int)) (h2 : seq? m j = some (ns.map .int)) : SM.eqV m (.ref i) (.ref j) = some true :=
  eq_sameG (f := PV.int) (g := PyData.int) h1 h2 (fun _ _ => rfl) (fun _ _ => by simp [PyData.canLay0]) (fun _ => by simp [PyData.depth])
theorem slr_r {m : MH} {n : Nat} {xs : List PV} {lo hi : Option Int} (h : seq? m n = some xs) : slv (.ref n) lo hi m = some (.ref m.length, m ++ [.lst (cut xs lo hi)]) := by
  show (seq? m n).map _ = _
  rw [h]; rfl
theorem eq_pair {a b c d : Int} {m : MH} : SM.eqV m (.tup [.int a, .int b]) (.tup [.int c, .int d]) = some (decide (a = c ∧ b = d)) := by
  have e1 : toD m 8 (.tup [.int a, .int b]) = some (.tuple [.int a, .int b]) := rfl
  have e2 : toD m 8 (.tup [.int c, .int d]) = some (.tuple [.int c, .int d]) := rfl
  have sh : ∀ x y : Int, SeqAt.shaped (.tuple [.int x, .int y]) = true := fun x y => shp (by simp [PyData.canLay0, PyData.canLayAll0]) (by simp [PyData.depth, PyData.depthAll])
  have e0 : eqF (.tup [.int a, .int b]) (.tup [.int c, .int d]) = none := rfl
  unfold SM.eqV
  rw [e0]
  dsimp only
  unfold eqD
  rw [e1, e2]
  dsimp only
  rw [if_pos ⟨sh _ _, sh _ _⟩]
  simp [PyData.eqv, PyData.eqvAll]
  by_cases h1 : a = c <;> by_cases h2 : b = d <;> simp [h1, h2]
/-! ### integers of the draws, numbers -/
theorem pow_le8 : ∀ {d : Nat}, d ≤ 8 → (1000 : Int) ^ d ≤ 1000 ^ 8
  | 0, _ => by decide
  | 1, _ => by decide
  | 2, _ => by decide
  | 3, _ => by decide
  | 4, _ => by decide
  | 5, _ => by decide
  | 6, _ => by decide
  | 7, _ => by decide
  | 8, _ => by decide
  | _ + 9, h => by omega
theorem linteger_ok {m : MH} {ns : List Int} {r : Nat} {k : Int} (h : m[r]? = some (.frz (ns.map .int))) (hk : 0 ≤ k) (hk2 : k ≤ 100) : WP (f_law_integer [.ref r, .int k] m) (fun x m' => (∃ v, x = .int v ∧ 0 ≤ v ∧ v < 128 ^ 20) ∧ Gr m m') NoE := by
  have cell := fun (m' : MH) (h : m'[r]? = some (.frz (ns.map .int))) => cell_ok (m := m') (k := k) (seq_of_frz h) hk
  generalize ns.getD k.toNat 0 = c at *
  unfold f_law_integer b_law_integer
  try simp -dsimp only [at0, at1, at2, at3, at4, at5, at6, wp_fn, s_nil, s_brk, s_cnt, s_expr, s_ret, s_retN, s_if, s_asn, s_par, s_asg, g_nm, g_nil, g_cons, g_tupT, g_subW, w_v0, w_vS, w_c, w_op, w_un, w_anil, w_acons, w_tup, w_lst, w_call, w_callU, w_isi, w_meth, w_tru, w_bool, w_notS, w_andS, w_orS, w_ifx, w_andV, w_orV, w_notV, w_chain, wp_ok, wp_bad, wp_some, wp_none, wp_liftif, wp_if, asB_b, wp_noex, add_ii, sub_ii, mul_ii, fdiv_ii, mod_ii, pow_ii, neg_i, cmp_ii, lt_ii, le_ii, gt_ii, ge_ii, le_cc, muls_ii, muls_si, ins_cs, iadd_ii, isub_ii, w_onone, w_osome, w_sl, sl_s, sl_t, s_aug, eq_ss, len_s, ix_s, add_ss, str_s, tuple_t, list_t, is_n, not_n, non_n, non_i, non_b, non_s, non_t, non_r, abs_i, max_ii, min_ii, int_i, int_b, gcd_ii, len_t, ix_t, eq_v, ne_v, eq_ii, eq_bb, eq_nn, eq_in, eq_ni, iv_n_list, iv_n_tuple, iv_n_bool, iv_n_str, iv_n_int, okt_n, iv_b_list, iv_b_tuple, iv_b_bool, iv_b_str, iv_b_int, okt_b, iv_i_list, iv_i_tuple, iv_i_bool, iv_i_str, iv_i_int, okt_i, iv_s_list, iv_s_tuple, iv_s_bool, iv_s_str, iv_s_int, okt_s, iv_t_list, iv_t_tuple, iv_t_bool, iv_t_str, iv_t_int, okt_t, iv_r_list, iv_r_tuple, iv_r_bool, iv_r_str, iv_r_int, tru_b, tru_i, tru_n, tru_t, Option.map_some, Option.map_none, List.map_cons, List.map_nil, List.length_cons, List.length_nil, List.set_cons_zero, List.set_cons_succ, List.cons_append, List.nil_append, List.replicate, Nat.reduceAdd, Nat.reduceSub, Nat.reduceLeDiff, true_and, and_true, decide_eq_true_eq, reduceIte, Bool.false_eq_true, Bool.not_true, Bool.not_false, decide_true, decide_false]
  rw [s_seq]
  try simp -dsimp only [at0, at1, at2, at3, at4, at5, at6, wp_fn, s_nil, s_brk, s_cnt, s_expr, s_ret, s_retN, s_if, s_asn, s_par, s_asg, g_nm, g_nil, g_cons, g_tupT, g_subW, w_v0, w_vS, w_c, w_op, w_un, w_anil, w_acons, w_tup, w_lst, w_call, w_callU, w_isi, w_meth, w_tru, w_bool, w_notS, w_andS, w_orS, w_ifx, w_andV, w_orV, w_notV, w_chain, wp_ok, wp_bad, wp_some, wp_none, wp_liftif, wp_if, asB_b, wp_noex, add_ii, sub_ii, mul_ii, fdiv_ii, mod_ii, pow_ii, neg_i, cmp_ii, lt_ii, le_ii, gt_ii, ge_ii, le_cc, muls_ii, muls_si, ins_cs, iadd_ii, isub_ii, w_onone, w_osome, w_sl, sl_s, sl_t, s_aug, eq_ss, len_s, ix_s, add_ss, str_s, tuple_t, list_t, is_n, not_n, non_n, non_i, non_b, non_s, non_t, non_r, abs_i, max_ii, min_ii, int_i, int_b, gcd_ii, len_t, ix_t, eq_v, ne_v, eq_ii, eq_bb, eq_nn, eq_in, eq_ni, iv_n_list, iv_n_tuple, iv_n_bool, iv_n_str, iv_n_int, okt_n, iv_b_list, iv_b_tuple, iv_b_bool, iv_b_str, iv_b_int, okt_b, iv_i_list, iv_i_tuple, iv_i_bool, iv_i_str, iv_i_int, okt_i, iv_s_list, iv_s_tuple, iv_s_bool, iv_s_str, iv_s_int, okt_s, iv_t_list, iv_t_tuple, iv_t_bool, iv_t_str, iv_t_int, okt_t, iv_r_list, iv_r_tuple, iv_r_bool, iv_r_str, iv_r_int, tru_b, tru_i, tru_n, tru_t, Option.map_some, Option.map_none, List.map_cons, List.map_nil, List.length_cons, List.length_nil, List.set_cons_zero, List.set_cons_succ, List.cons_append, List.nil_append, List.replicate, Nat.reduceAdd, Nat.reduceSub, Nat.reduceLeDiff, true_and, and_true, decide_eq_true_eq, reduceIte, Bool.false_eq_true, Bool.not_true, Bool.not_false, decide_true, decide_false]
  rw [s_seq]
  refine s_forLW ?_
  try simp -dsimp only [at0, at1, at2, at3, at4, at5, at6, wp_fn, s_nil, s_brk, s_cnt, s_expr, s_ret, s_retN, s_if, s_asn, s_par, s_asg, g_nm, g_nil, g_cons, g_tupT, g_subW, w_v0, w_vS, w_c, w_op, w_un, w_anil, w_acons, w_tup, w_lst, w_call, w_callU, w_isi, w_meth, w_tru, w_bool, w_notS, w_andS, w_orS, w_ifx, w_andV, w_orV, w_notV, w_chain, wp_ok, wp_bad, wp_some, wp_none, wp_liftif, wp_if, asB_b, wp_noex, add_ii, sub_ii, mul_ii, fdiv_ii, mod_ii, pow_ii, neg_i, cmp_ii, lt_ii, le_ii, gt_ii, ge_ii, le_cc, muls_ii, muls_si, ins_cs, iadd_ii, isub_ii, w_onone, w_osome, w_sl, sl_s, sl_t, s_aug, eq_ss, len_s, ix_s, add_ss, str_s, tuple_t, list_t, is_n, not_n, non_n, non_i, non_b, non_s, non_t, non_r, abs_i, max_ii, min_ii, int_i, int_b, gcd_ii, len_t, ix_t, eq_v, ne_v, eq_ii, eq_bb, eq_nn, eq_in, eq_ni, iv_n_list, iv_n_tuple, iv_n_bool, iv_n_str, iv_n_int, okt_n, iv_b_list, iv_b_tuple, iv_b_bool, iv_b_str, iv_b_int, okt_b, iv_i_list, iv_i_tuple, iv_i_bool, iv_i_str, iv_i_int, okt_i, iv_s_list, iv_s_tuple, iv_s_bool, iv_s_str, iv_s_int, okt_s, iv_t_list, iv_t_tuple, iv_t_bool, iv_t_str, iv_t_int, okt_t, iv_r_list, iv_r_tuple, iv_r_bool, iv_r_str, iv_r_int, tru_b, tru_i, tru_n, tru_t, Option.map_some, Option.map_none, List.map_cons, List.map_nil, List.length_cons, List.length_nil, List.set_cons_zero, List.set_cons_succ, List.cons_append, List.nil_append, List.replicate, Nat.reduceAdd, Nat.reduceSub, Nat.reduceLeDiff, true_and, and_true, decide_eq_true_eq, reduceIte, Bool.false_eq_true, Bool.not_true, Bool.not_false, decide_true, decide_false]
  refine (cell _ h).mono ?_
  rintro _ m ⟨rfl, rfl⟩
  try simp -dsimp only [at0, at1, at2, at3, at4, at5, at6, wp_fn, s_nil, s_brk, s_cnt, s_expr, s_ret, s_retN, s_if, s_asn, s_par, s_asg, g_nm, g_nil, g_cons, g_tupT, g_subW, w_v0, w_vS, w_c, w_op, w_un, w_anil, w_acons, w_tup, w_lst, w_call, w_callU, w_isi, w_meth, w_tru, w_bool, w_notS, w_andS, w_orS, w_ifx, w_andV, w_orV, w_notV, w_chain, wp_ok, wp_bad, wp_some, wp_none, wp_liftif, wp_if, asB_b, wp_noex, add_ii, sub_ii, mul_ii, fdiv_ii, mod_ii, pow_ii, neg_i, cmp_ii, lt_ii, le_ii, gt_ii, ge_ii, le_cc, muls_ii, muls_si, ins_cs, iadd_ii, isub_ii, w_onone, w_osome, w_sl, sl_s, sl_t, s_aug, eq_ss, len_s, ix_s, add_ss, str_s, tuple_t, list_t, is_n, not_n, non_n, non_i, non_b, non_s, non_t, non_r, abs_i, max_ii, min_ii, int_i, int_b, gcd_ii, len_t, ix_t, eq_v, ne_v, eq_ii, eq_bb, eq_nn, eq_in, eq_ni, iv_n_list, iv_n_tuple, iv_n_bool, iv_n_str, iv_n_int, okt_n, iv_b_list, iv_b_tuple, iv_b_bool, iv_b_str, iv_b_int, okt_b, iv_i_list, iv_i_tuple, iv_i_bool, iv_i_str, iv_i_int, okt_i, iv_s_list, iv_s_tuple, iv_s_bool, iv_s_str, iv_s_int, okt_s, iv_t_list, iv_t_tuple, iv_t_bool, iv_t_str, iv_t_int, okt_t, iv_r_list, iv_r_tuple, iv_r_bool, iv_r_str, iv_r_int, tru_b, tru_i, tru_n, tru_t, Option.map_some, Option.map_none, List.map_cons, List.map_nil, List.length_cons, List.length_nil, List.set_cons_zero, List.set_cons_succ, List.cons_append, List.nil_append, List.replicate, Nat.reduceAdd, Nat.reduceSub, Nat.reduceLeDiff, true_and, and_true, decide_eq_true_eq, reduceIte, Bool.false_eq_true, Bool.not_true, Bool.not_false, decide_true, decide_false]
  refine (cell _ h).mono ?_
  rintro _ m ⟨rfl, rfl⟩
  try simp -dsimp only [at0, at1, at2, at3, at4, at5, at6, wp_fn, s_nil, s_brk, s_cnt, s_expr, s_ret, s_retN, s_if, s_asn, s_par, s_asg, g_nm, g_nil, g_cons, g_tupT, g_subW, w_v0, w_vS, w_c, w_op, w_un, w_anil, w_acons, w_tup, w_lst, w_call, w_callU, w_isi, w_meth, w_tru, w_bool, w_notS, w_andS, w_orS, w_ifx, w_andV, w_orV, w_notV, w_chain, wp_ok, wp_bad, wp_some, wp_none, wp_liftif, wp_if, asB_b, wp_noex, add_ii, sub_ii, mul_ii, fdiv_ii, mod_ii, pow_ii, neg_i, cmp_ii, lt_ii, le_ii, gt_ii, ge_ii, le_cc, muls_ii, muls_si, ins_cs, iadd_ii, isub_ii, w_onone, w_osome, w_sl, sl_s, sl_t, s_aug, eq_ss, len_s, ix_s, add_ss, str_s, tuple_t, list_t, is_n, not_n, non_n, non_i, non_b, non_s, non_t, non_r, abs_i, max_ii, min_ii, int_i, int_b, gcd_ii, len_t, ix_t, eq_v, ne_v, eq_ii, eq_bb, eq_nn, eq_in, eq_ni, iv_n_list, iv_n_tuple, iv_n_bool, iv_n_str, iv_n_int, okt_n, iv_b_list, iv_b_tuple, iv_b_bool, iv_b_str, iv_b_int, okt_b, iv_i_list, iv_i_tuple, iv_i_bool, iv_i_str, iv_i_int, okt_i, iv_s_list, iv_s_tuple, iv_s_bool, iv_s_str, iv_s_int, okt_s, iv_t_list, iv_t_tuple, iv_t_bool, iv_t_str, iv_t_int, okt_t, iv_r_list, iv_r_tuple, iv_r_bool, iv_r_str, iv_r_int, tru_b, tru_i, tru_n, tru_t, Option.map_some, Option.map_none, List.map_cons, List.map_nil, List.length_cons, List.length_nil, List.set_cons_zero, List.set_cons_succ, List.cons_append, List.nil_append, List.replicate, Nat.reduceAdd, Nat.reduceSub, Nat.reduceLeDiff, true_and, and_true, decide_eq_true_eq, reduceIte, Bool.false_eq_true, Bool.not_true, Bool.not_false, decide_true, decide_false]
  rw [if_pos (by decide), fmod_pos (by decide)]
  try simp -dsimp only [at0, at1, at2, at3, at4, at5, at6, wp_fn, s_nil, s_brk, s_cnt, s_expr, s_ret, s_retN, s_if, s_asn, s_par, s_asg, g_nm, g_nil, g_cons, g_tupT, g_subW, w_v0, w_vS, w_c, w_op, w_un, w_anil, w_acons, w_tup, w_lst, w_call, w_callU, w_isi, w_meth, w_tru, w_bool, w_notS, w_andS, w_orS, w_ifx, w_andV, w_orV, w_notV, w_chain, wp_ok, wp_bad, wp_some, wp_none, wp_liftif, wp_if, asB_b, wp_noex, add_ii, sub_ii, mul_ii, fdiv_ii, mod_ii, pow_ii, neg_i, cmp_ii, lt_ii, le_ii, gt_ii, ge_ii, le_cc, muls_ii, muls_si, ins_cs, iadd_ii, isub_ii, w_onone, w_osome, w_sl, sl_s, sl_t, s_aug, eq_ss, len_s, ix_s, add_ss, str_s, tuple_t, list_t, is_n, not_n, non_n, non_i, non_b, non_s, non_t, non_r, abs_i, max_ii, min_ii, int_i, int_b, gcd_ii, len_t, ix_t, eq_v, ne_v, eq_ii, eq_bb, eq_nn, eq_in, eq_ni, iv_n_list, iv_n_tuple, iv_n_bool, iv_n_str, iv_n_int, okt_n, iv_b_list, iv_b_tuple, iv_b_bool, iv_b_str, iv_b_int, okt_b, iv_i_list, iv_i_tuple, iv_i_bool, iv_i_str, iv_i_int, okt_i, iv_s_list, iv_s_tuple, iv_s_bool, iv_s_str, iv_s_int, okt_s, iv_t_list, iv_t_tuple, iv_t_bool, iv_t_str, iv_t_int, okt_t, iv_r_list, iv_r_tuple, iv_r_bool, iv_r_str, iv_r_int, tru_b, tru_i, tru_n, tru_t, Option.map_some, Option.map_none, List.map_cons, List.map_nil, List.length_cons, List.length_nil, List.set_cons_zero, List.set_cons_succ, List.cons_append, List.nil_append, List.replicate, Nat.reduceAdd, Nat.reduceSub, Nat.reduceLeDiff, true_and, and_true, decide_eq_true_eq, reduceIte, Bool.false_eq_true, Bool.not_true, Bool.not_false, decide_true, decide_false]
  obtain ⟨w, hw⟩ := Int.eq_ofNat_of_zero_le (show 0 ≤ c % 9 by omega)
  rw [hw]
  refine (digits_okW (w := w) hk hk2 (by omega)).mono ?_
  rintro _ _ ⟨ds, rfl, rfl, hd, hl⟩
  have hl8 : ds.length ≤ 8 := by omega
  have P := get_new (m := m) (o := MO.lst (ds.map PV.int))
  have h1 := get_old (o := MO.lst (ds.map PV.int)) h
  have G1 : Gr m (m ++ [MO.lst (ds.map PV.int)]) := Gr.one
  generalize m ++ [MO.lst (ds.map PV.int)] = m1 at *
  generalize m.length = dn at *
  refine ⟨_, _, rfl, seq_of_lst P, fun j l m' => ∃ (v : Int) (x3 : Option PV), l = [some (.ref r), some (.int k), some (.int v), x3] ∧ m' = m1 ∧ 0 ≤ v ∧ v < 1000 ^ j, ⟨0, _, rfl, rfl, by decide, by decide⟩, ?_, ?_, ?_⟩
  · rintro j l m' ⟨v, x3, rfl, rfl, v0, v1⟩
    exact seq_of_lst P
  · rintro j x l m' hx ⟨v, x3, rfl, rfl, v0, v1⟩
    rw [List.getElem?_map] at hx
    cases es : ds[j]? with
    | none => rw [es] at hx; cases hx
    | some d =>
    rw [es] at hx
    cases hx
    obtain ⟨d0, d1⟩ := hd d (List.mem_of_getElem? es)
    unfold law_integer_l1
    try simp -dsimp only [at0, at1, at2, at3, at4, at5, at6, wp_fn, s_nil, s_brk, s_cnt, s_expr, s_ret, s_retN, s_if, s_asn, s_par, s_asg, g_nm, g_nil, g_cons, g_tupT, g_subW, w_v0, w_vS, w_c, w_op, w_un, w_anil, w_acons, w_tup, w_lst, w_call, w_callU, w_isi, w_meth, w_tru, w_bool, w_notS, w_andS, w_orS, w_ifx, w_andV, w_orV, w_notV, w_chain, wp_ok, wp_bad, wp_some, wp_none, wp_liftif, wp_if, asB_b, wp_noex, add_ii, sub_ii, mul_ii, fdiv_ii, mod_ii, pow_ii, neg_i, cmp_ii, lt_ii, le_ii, gt_ii, ge_ii, le_cc, muls_ii, muls_si, ins_cs, iadd_ii, isub_ii, w_onone, w_osome, w_sl, sl_s, sl_t, s_aug, eq_ss, len_s, ix_s, add_ss, str_s, tuple_t, list_t, is_n, not_n, non_n, non_i, non_b, non_s, non_t, non_r, abs_i, max_ii, min_ii, int_i, int_b, gcd_ii, len_t, ix_t, eq_v, ne_v, eq_ii, eq_bb, eq_nn, eq_in, eq_ni, iv_n_list, iv_n_tuple, iv_n_bool, iv_n_str, iv_n_int, okt_n, iv_b_list, iv_b_tuple, iv_b_bool, iv_b_str, iv_b_int, okt_b, iv_i_list, iv_i_tuple, iv_i_bool, iv_i_str, iv_i_int, okt_i, iv_s_list, iv_s_tuple, iv_s_bool, iv_s_str, iv_s_int, okt_s, iv_t_list, iv_t_tuple, iv_t_bool, iv_t_str, iv_t_int, okt_t, iv_r_list, iv_r_tuple, iv_r_bool, iv_r_str, iv_r_int, tru_b, tru_i, tru_n, tru_t, Option.map_some, Option.map_none, List.map_cons, List.map_nil, List.length_cons, List.length_nil, List.set_cons_zero, List.set_cons_succ, List.cons_append, List.nil_append, List.replicate, Nat.reduceAdd, Nat.reduceSub, Nat.reduceLeDiff, true_and, and_true, decide_eq_true_eq, reduceIte, Bool.false_eq_true, Bool.not_true, Bool.not_false, decide_true, decide_false]
    rw [if_pos (.inl (.inr (by decide)))]
    try simp -dsimp only [at0, at1, at2, at3, at4, at5, at6, wp_fn, s_nil, s_brk, s_cnt, s_expr, s_ret, s_retN, s_if, s_asn, s_par, s_asg, g_nm, g_nil, g_cons, g_tupT, g_subW, w_v0, w_vS, w_c, w_op, w_un, w_anil, w_acons, w_tup, w_lst, w_call, w_callU, w_isi, w_meth, w_tru, w_bool, w_notS, w_andS, w_orS, w_ifx, w_andV, w_orV, w_notV, w_chain, wp_ok, wp_bad, wp_some, wp_none, wp_liftif, wp_if, asB_b, wp_noex, add_ii, sub_ii, mul_ii, fdiv_ii, mod_ii, pow_ii, neg_i, cmp_ii, lt_ii, le_ii, gt_ii, ge_ii, le_cc, muls_ii, muls_si, ins_cs, iadd_ii, isub_ii, w_onone, w_osome, w_sl, sl_s, sl_t, s_aug, eq_ss, len_s, ix_s, add_ss, str_s, tuple_t, list_t, is_n, not_n, non_n, non_i, non_b, non_s, non_t, non_r, abs_i, max_ii, min_ii, int_i, int_b, gcd_ii, len_t, ix_t, eq_v, ne_v, eq_ii, eq_bb, eq_nn, eq_in, eq_ni, iv_n_list, iv_n_tuple, iv_n_bool, iv_n_str, iv_n_int, okt_n, iv_b_list, iv_b_tuple, iv_b_bool, iv_b_str, iv_b_int, okt_b, iv_i_list, iv_i_tuple, iv_i_bool, iv_i_str, iv_i_int, okt_i, iv_s_list, iv_s_tuple, iv_s_bool, iv_s_str, iv_s_int, okt_s, iv_t_list, iv_t_tuple, iv_t_bool, iv_t_str, iv_t_int, okt_t, iv_r_list, iv_r_tuple, iv_r_bool, iv_r_str, iv_r_int, tru_b, tru_i, tru_n, tru_t, Option.map_some, Option.map_none, List.map_cons, List.map_nil, List.length_cons, List.length_nil, List.set_cons_zero, List.set_cons_succ, List.cons_append, List.nil_append, List.replicate, Nat.reduceAdd, Nat.reduceSub, Nat.reduceLeDiff, true_and, and_true, decide_eq_true_eq, reduceIte, Bool.false_eq_true, Bool.not_true, Bool.not_false, decide_true, decide_false]
    refine ⟨_, _, rfl, by omega, ?_⟩
    rw [Int.pow_succ]
    omega
  · rintro l m' ⟨v, x3, rfl, rfl, v0, v1⟩
    rw [List.length_map] at v1
    have e8 : (1000 : Int) ^ 8 = 1000000000000000000000000 := by decide
    have e20 : (128 : Int) ^ 20 = 1393796574908163946345982392040522594123776 := by decide
    have hv : v < 1000 ^ 8 := by
      have : (1000 : Int) ^ ds.length ≤ 1000 ^ 8 := pow_le8 hl8
      omega
    try simp -dsimp only [at0, at1, at2, at3, at4, at5, at6, wp_fn, s_nil, s_brk, s_cnt, s_expr, s_ret, s_retN, s_if, s_asn, s_par, s_asg, g_nm, g_nil, g_cons, g_tupT, g_subW, w_v0, w_vS, w_c, w_op, w_un, w_anil, w_acons, w_tup, w_lst, w_call, w_callU, w_isi, w_meth, w_tru, w_bool, w_notS, w_andS, w_orS, w_ifx, w_andV, w_orV, w_notV, w_chain, wp_ok, wp_bad, wp_some, wp_none, wp_liftif, wp_if, asB_b, wp_noex, add_ii, sub_ii, mul_ii, fdiv_ii, mod_ii, pow_ii, neg_i, cmp_ii, lt_ii, le_ii, gt_ii, ge_ii, le_cc, muls_ii, muls_si, ins_cs, iadd_ii, isub_ii, w_onone, w_osome, w_sl, sl_s, sl_t, s_aug, eq_ss, len_s, ix_s, add_ss, str_s, tuple_t, list_t, is_n, not_n, non_n, non_i, non_b, non_s, non_t, non_r, abs_i, max_ii, min_ii, int_i, int_b, gcd_ii, len_t, ix_t, eq_v, ne_v, eq_ii, eq_bb, eq_nn, eq_in, eq_ni, iv_n_list, iv_n_tuple, iv_n_bool, iv_n_str, iv_n_int, okt_n, iv_b_list, iv_b_tuple, iv_b_bool, iv_b_str, iv_b_int, okt_b, iv_i_list, iv_i_tuple, iv_i_bool, iv_i_str, iv_i_int, okt_i, iv_s_list, iv_s_tuple, iv_s_bool, iv_s_str, iv_s_int, okt_s, iv_t_list, iv_t_tuple, iv_t_bool, iv_t_str, iv_t_int, okt_t, iv_r_list, iv_r_tuple, iv_r_bool, iv_r_str, iv_r_int, tru_b, tru_i, tru_n, tru_t, Option.map_some, Option.map_none, List.map_cons, List.map_nil, List.length_cons, List.length_nil, List.set_cons_zero, List.set_cons_succ, List.cons_append, List.nil_append, List.replicate, Nat.reduceAdd, Nat.reduceSub, Nat.reduceLeDiff, true_and, and_true, decide_eq_true_eq, reduceIte, Bool.false_eq_true, Bool.not_true, Bool.not_false, decide_true, decide_false]
    refine (cell _ (get_old h1)).mono ?_
    rintro _ m2 ⟨rfl, rfl⟩
    try simp -dsimp only [at0, at1, at2, at3, at4, at5, at6, wp_fn, s_nil, s_brk, s_cnt, s_expr, s_ret, s_retN, s_if, s_asn, s_par, s_asg, g_nm, g_nil, g_cons, g_tupT, g_subW, w_v0, w_vS, w_c, w_op, w_un, w_anil, w_acons, w_tup, w_lst, w_call, w_callU, w_isi, w_meth, w_tru, w_bool, w_notS, w_andS, w_orS, w_ifx, w_andV, w_orV, w_notV, w_chain, wp_ok, wp_bad, wp_some, wp_none, wp_liftif, wp_if, asB_b, wp_noex, add_ii, sub_ii, mul_ii, fdiv_ii, mod_ii, pow_ii, neg_i, cmp_ii, lt_ii, le_ii, gt_ii, ge_ii, le_cc, muls_ii, muls_si, ins_cs, iadd_ii, isub_ii, w_onone, w_osome, w_sl, sl_s, sl_t, s_aug, eq_ss, len_s, ix_s, add_ss, str_s, tuple_t, list_t, is_n, not_n, non_n, non_i, non_b, non_s, non_t, non_r, abs_i, max_ii, min_ii, int_i, int_b, gcd_ii, len_t, ix_t, eq_v, ne_v, eq_ii, eq_bb, eq_nn, eq_in, eq_ni, iv_n_list, iv_n_tuple, iv_n_bool, iv_n_str, iv_n_int, okt_n, iv_b_list, iv_b_tuple, iv_b_bool, iv_b_str, iv_b_int, okt_b, iv_i_list, iv_i_tuple, iv_i_bool, iv_i_str, iv_i_int, okt_i, iv_s_list, iv_s_tuple, iv_s_bool, iv_s_str, iv_s_int, okt_s, iv_t_list, iv_t_tuple, iv_t_bool, iv_t_str, iv_t_int, okt_t, iv_r_list, iv_r_tuple, iv_r_bool, iv_r_str, iv_r_int, tru_b, tru_i, tru_n, tru_t, Option.map_some, Option.map_none, List.map_cons, List.map_nil, List.length_cons, List.length_nil, List.set_cons_zero, List.set_cons_succ, List.cons_append, List.nil_append, List.replicate, Nat.reduceAdd, Nat.reduceSub, Nat.reduceLeDiff, true_and, and_true, decide_eq_true_eq, reduceIte, Bool.false_eq_true, Bool.not_true, Bool.not_false, decide_true, decide_false]
    rw [if_pos ⟨by decide, big_of (by decide)⟩, fdiv_pos (by decide)]
    try simp -dsimp only [at0, at1, at2, at3, at4, at5, at6, wp_fn, s_nil, s_brk, s_cnt, s_expr, s_ret, s_retN, s_if, s_asn, s_par, s_asg, g_nm, g_nil, g_cons, g_tupT, g_subW, w_v0, w_vS, w_c, w_op, w_un, w_anil, w_acons, w_tup, w_lst, w_call, w_callU, w_isi, w_meth, w_tru, w_bool, w_notS, w_andS, w_orS, w_ifx, w_andV, w_orV, w_notV, w_chain, wp_ok, wp_bad, wp_some, wp_none, wp_liftif, wp_if, asB_b, wp_noex, add_ii, sub_ii, mul_ii, fdiv_ii, mod_ii, pow_ii, neg_i, cmp_ii, lt_ii, le_ii, gt_ii, ge_ii, le_cc, muls_ii, muls_si, ins_cs, iadd_ii, isub_ii, w_onone, w_osome, w_sl, sl_s, sl_t, s_aug, eq_ss, len_s, ix_s, add_ss, str_s, tuple_t, list_t, is_n, not_n, non_n, non_i, non_b, non_s, non_t, non_r, abs_i, max_ii, min_ii, int_i, int_b, gcd_ii, len_t, ix_t, eq_v, ne_v, eq_ii, eq_bb, eq_nn, eq_in, eq_ni, iv_n_list, iv_n_tuple, iv_n_bool, iv_n_str, iv_n_int, okt_n, iv_b_list, iv_b_tuple, iv_b_bool, iv_b_str, iv_b_int, okt_b, iv_i_list, iv_i_tuple, iv_i_bool, iv_i_str, iv_i_int, okt_i, iv_s_list, iv_s_tuple, iv_s_bool, iv_s_str, iv_s_int, okt_s, iv_t_list, iv_t_tuple, iv_t_bool, iv_t_str, iv_t_int, okt_t, iv_r_list, iv_r_tuple, iv_r_bool, iv_r_str, iv_r_int, tru_b, tru_i, tru_n, tru_t, Option.map_some, Option.map_none, List.map_cons, List.map_nil, List.length_cons, List.length_nil, List.set_cons_zero, List.set_cons_succ, List.cons_append, List.nil_append, List.replicate, Nat.reduceAdd, Nat.reduceSub, Nat.reduceLeDiff, true_and, and_true, decide_eq_true_eq, reduceIte, Bool.false_eq_true, Bool.not_true, Bool.not_false, decide_true, decide_false]
    rw [if_pos (by decide), fmod_pos (by decide)]
    try simp -dsimp only [at0, at1, at2, at3, at4, at5, at6, wp_fn, s_nil, s_brk, s_cnt, s_expr, s_ret, s_retN, s_if, s_asn, s_par, s_asg, g_nm, g_nil, g_cons, g_tupT, g_subW, w_v0, w_vS, w_c, w_op, w_un, w_anil, w_acons, w_tup, w_lst, w_call, w_callU, w_isi, w_meth, w_tru, w_bool, w_notS, w_andS, w_orS, w_ifx, w_andV, w_orV, w_notV, w_chain, wp_ok, wp_bad, wp_some, wp_none, wp_liftif, wp_if, asB_b, wp_noex, add_ii, sub_ii, mul_ii, fdiv_ii, mod_ii, pow_ii, neg_i, cmp_ii, lt_ii, le_ii, gt_ii, ge_ii, le_cc, muls_ii, muls_si, ins_cs, iadd_ii, isub_ii, w_onone, w_osome, w_sl, sl_s, sl_t, s_aug, eq_ss, len_s, ix_s, add_ss, str_s, tuple_t, list_t, is_n, not_n, non_n, non_i, non_b, non_s, non_t, non_r, abs_i, max_ii, min_ii, int_i, int_b, gcd_ii, len_t, ix_t, eq_v, ne_v, eq_ii, eq_bb, eq_nn, eq_in, eq_ni, iv_n_list, iv_n_tuple, iv_n_bool, iv_n_str, iv_n_int, okt_n, iv_b_list, iv_b_tuple, iv_b_bool, iv_b_str, iv_b_int, okt_b, iv_i_list, iv_i_tuple, iv_i_bool, iv_i_str, iv_i_int, okt_i, iv_s_list, iv_s_tuple, iv_s_bool, iv_s_str, iv_s_int, okt_s, iv_t_list, iv_t_tuple, iv_t_bool, iv_t_str, iv_t_int, okt_t, iv_r_list, iv_r_tuple, iv_r_bool, iv_r_str, iv_r_int, tru_b, tru_i, tru_n, tru_t, Option.map_some, Option.map_none, List.map_cons, List.map_nil, List.length_cons, List.length_nil, List.set_cons_zero, List.set_cons_succ, List.cons_append, List.nil_append, List.replicate, Nat.reduceAdd, Nat.reduceSub, Nat.reduceLeDiff, true_and, and_true, decide_eq_true_eq, reduceIte, Bool.false_eq_true, Bool.not_true, Bool.not_false, decide_true, decide_false]
    obtain ⟨u, eu, hu⟩ : ∃ u, ixv (.ref m'.length) (.int (c / 9 % 5)) (m' ++ [MO.lst [.int 0, .int 128, .int 16384, .int 2097152, .int 268435456]]) = some (.int u, m' ++ [MO.lst [.int 0, .int 128, .int 16384, .int 2097152, .int 268435456]]) ∧ 0 ≤ u ∧ u ≤ 268435456 := by
      rcases (by omega : c / 9 % 5 = 0 ∨ c / 9 % 5 = 1 ∨ c / 9 % 5 = 2 ∨ c / 9 % 5 = 3 ∨ c / 9 % 5 = 4) with e | e | e | e | e
      · exact ⟨0, by rw [e, ix_r (seq_of_lst get_new), at0]; rfl, by omega⟩
      · exact ⟨128, by rw [e, ix_r (seq_of_lst get_new), at1]; rfl, by omega⟩
      · exact ⟨16384, by rw [e, ix_r (seq_of_lst get_new), at2]; rfl, by omega⟩
      · exact ⟨2097152, by rw [e, ix_r (seq_of_lst get_new), at3]; rfl, by omega⟩
      · exact ⟨268435456, by rw [e, ix_r (seq_of_lst get_new), at4]; rfl, by omega⟩
    rw [eu]
    try simp -dsimp only [at0, at1, at2, at3, at4, at5, at6, wp_fn, s_nil, s_brk, s_cnt, s_expr, s_ret, s_retN, s_if, s_asn, s_par, s_asg, g_nm, g_nil, g_cons, g_tupT, g_subW, w_v0, w_vS, w_c, w_op, w_un, w_anil, w_acons, w_tup, w_lst, w_call, w_callU, w_isi, w_meth, w_tru, w_bool, w_notS, w_andS, w_orS, w_ifx, w_andV, w_orV, w_notV, w_chain, wp_ok, wp_bad, wp_some, wp_none, wp_liftif, wp_if, asB_b, wp_noex, add_ii, sub_ii, mul_ii, fdiv_ii, mod_ii, pow_ii, neg_i, cmp_ii, lt_ii, le_ii, gt_ii, ge_ii, le_cc, muls_ii, muls_si, ins_cs, iadd_ii, isub_ii, w_onone, w_osome, w_sl, sl_s, sl_t, s_aug, eq_ss, len_s, ix_s, add_ss, str_s, tuple_t, list_t, is_n, not_n, non_n, non_i, non_b, non_s, non_t, non_r, abs_i, max_ii, min_ii, int_i, int_b, gcd_ii, len_t, ix_t, eq_v, ne_v, eq_ii, eq_bb, eq_nn, eq_in, eq_ni, iv_n_list, iv_n_tuple, iv_n_bool, iv_n_str, iv_n_int, okt_n, iv_b_list, iv_b_tuple, iv_b_bool, iv_b_str, iv_b_int, okt_b, iv_i_list, iv_i_tuple, iv_i_bool, iv_i_str, iv_i_int, okt_i, iv_s_list, iv_s_tuple, iv_s_bool, iv_s_str, iv_s_int, okt_s, iv_t_list, iv_t_tuple, iv_t_bool, iv_t_str, iv_t_int, okt_t, iv_r_list, iv_r_tuple, iv_r_bool, iv_r_str, iv_r_int, tru_b, tru_i, tru_n, tru_t, Option.map_some, Option.map_none, List.map_cons, List.map_nil, List.length_cons, List.length_nil, List.set_cons_zero, List.set_cons_succ, List.cons_append, List.nil_append, List.replicate, Nat.reduceAdd, Nat.reduceSub, Nat.reduceLeDiff, true_and, and_true, decide_eq_true_eq, reduceIte, Bool.false_eq_true, Bool.not_true, Bool.not_false, decide_true, decide_false]
    by_cases c0 : v > 0
    · rw [if_pos c0]
      exact ⟨⟨_, rfl, by omega, by omega⟩, G1.push _⟩
    · rw [if_neg c0]
      exact ⟨⟨_, rfl, by omega, by omega⟩, G1.push _⟩
theorem cut_m1 {xs : List PV} {z : PV} : cut (xs ++ [z]) none (some (-1)) = xs := by
  unfold cut
  have e1 : HT.sIx (xs ++ [z]).length 0 none = 0 := by simp [HT.sIx]
  have e2 : HT.sIx (xs ++ [z]).length (xs ++ [z]).length (some (-1)) = xs.length := by
    simp [HT.sIx]
    omega
  rw [e1, e2]
  simp
theorem at_m1 {xs : List PV} {z : PV} : atI (xs ++ [z]) (-1) = some z := by
  unfold atI ixN
  rw [if_neg (by decide), if_pos (by simp; omega)]
  have : ((-1 : Int) + ((xs ++ [z]).length : Nat)).toNat = xs.length := by simp; omega
  show (xs ++ [z])[((-1 : Int) + ((xs ++ [z]).length : Nat)).toNat]? = some z
  rw [this]
  simp
theorem isnum_ok {m : MH} {n : Int} (h0 : 0 ≤ n) (h1 : n < 128 ^ 20) : WP (f_law_is_number [.int n] m) (fun x m' => x = .bl true ∧ Gr m m') NoE := by
  have h2 : n < 128 ^ 21 := by
    have : (128 : Int) ^ 21 = 128 ^ 20 * 128 := Int.pow_succ _ _
    have := Int.pow_pos (n := 128) (m := 20) (by decide)
    omega
  have rn := fun (m : MH) (d a : Nat) (ds : List Int) (h : m[d]? = some (.lst (ds.map .int))) (hb : ∀ x ∈ ds, 0 ≤ x ∧ x < 256) (hl : ds.length ≤ 10000) (ha : a ≤ 100000) => readnum_ok h hb hl ha
  unfold f_law_is_number b_law_is_number
  try simp -dsimp only [at0, at1, at2, at3, at4, at5, at6, wp_fn, s_nil, s_brk, s_cnt, s_expr, s_ret, s_retN, s_if, s_asn, s_par, s_asg, g_nm, g_nil, g_cons, g_tupT, g_subW, w_v0, w_vS, w_c, w_op, w_un, w_anil, w_acons, w_tup, w_lst, w_call, w_callU, w_isi, w_meth, w_tru, w_bool, w_notS, w_andS, w_orS, w_ifx, w_andV, w_orV, w_notV, w_chain, wp_ok, wp_bad, wp_some, wp_none, wp_liftif, wp_if, asB_b, wp_noex, add_ii, sub_ii, mul_ii, fdiv_ii, mod_ii, pow_ii, neg_i, cmp_ii, lt_ii, le_ii, gt_ii, ge_ii, le_cc, muls_ii, muls_si, ins_cs, iadd_ii, isub_ii, w_onone, w_osome, w_sl, sl_s, sl_t, s_aug, eq_ss, len_s, ix_s, add_ss, str_s, tuple_t, list_t, is_n, not_n, non_n, non_i, non_b, non_s, non_t, non_r, abs_i, max_ii, min_ii, int_i, int_b, gcd_ii, len_t, ix_t, eq_v, ne_v, eq_ii, eq_bb, eq_nn, eq_in, eq_ni, iv_n_list, iv_n_tuple, iv_n_bool, iv_n_str, iv_n_int, okt_n, iv_b_list, iv_b_tuple, iv_b_bool, iv_b_str, iv_b_int, okt_b, iv_i_list, iv_i_tuple, iv_i_bool, iv_i_str, iv_i_int, okt_i, iv_s_list, iv_s_tuple, iv_s_bool, iv_s_str, iv_s_int, okt_s, iv_t_list, iv_t_tuple, iv_t_bool, iv_t_str, iv_t_int, okt_t, iv_r_list, iv_r_tuple, iv_r_bool, iv_r_str, iv_r_int, tru_b, tru_i, tru_n, tru_t, Option.map_some, Option.map_none, List.map_cons, List.map_nil, List.length_cons, List.length_nil, List.set_cons_zero, List.set_cons_succ, List.cons_append, List.nil_append, List.replicate, Nat.reduceAdd, Nat.reduceSub, Nat.reduceLeDiff, true_and, and_true, decide_eq_true_eq, reduceIte, Bool.false_eq_true, Bool.not_true, Bool.not_false, decide_true, decide_false]
  rw [s_seq]
  try simp -dsimp only [at0, at1, at2, at3, at4, at5, at6, wp_fn, s_nil, s_brk, s_cnt, s_expr, s_ret, s_retN, s_if, s_asn, s_par, s_asg, g_nm, g_nil, g_cons, g_tupT, g_subW, w_v0, w_vS, w_c, w_op, w_un, w_anil, w_acons, w_tup, w_lst, w_call, w_callU, w_isi, w_meth, w_tru, w_bool, w_notS, w_andS, w_orS, w_ifx, w_andV, w_orV, w_notV, w_chain, wp_ok, wp_bad, wp_some, wp_none, wp_liftif, wp_if, asB_b, wp_noex, add_ii, sub_ii, mul_ii, fdiv_ii, mod_ii, pow_ii, neg_i, cmp_ii, lt_ii, le_ii, gt_ii, ge_ii, le_cc, muls_ii, muls_si, ins_cs, iadd_ii, isub_ii, w_onone, w_osome, w_sl, sl_s, sl_t, s_aug, eq_ss, len_s, ix_s, add_ss, str_s, tuple_t, list_t, is_n, not_n, non_n, non_i, non_b, non_s, non_t, non_r, abs_i, max_ii, min_ii, int_i, int_b, gcd_ii, len_t, ix_t, eq_v, ne_v, eq_ii, eq_bb, eq_nn, eq_in, eq_ni, iv_n_list, iv_n_tuple, iv_n_bool, iv_n_str, iv_n_int, okt_n, iv_b_list, iv_b_tuple, iv_b_bool, iv_b_str, iv_b_int, okt_b, iv_i_list, iv_i_tuple, iv_i_bool, iv_i_str, iv_i_int, okt_i, iv_s_list, iv_s_tuple, iv_s_bool, iv_s_str, iv_s_int, okt_s, iv_t_list, iv_t_tuple, iv_t_bool, iv_t_str, iv_t_int, okt_t, iv_r_list, iv_r_tuple, iv_r_bool, iv_r_str, iv_r_int, tru_b, tru_i, tru_n, tru_t, Option.map_some, Option.map_none, List.map_cons, List.map_nil, List.length_cons, List.length_nil, List.set_cons_zero, List.set_cons_succ, List.cons_append, List.nil_append, List.replicate, Nat.reduceAdd, Nat.reduceSub, Nat.reduceLeDiff, true_and, and_true, decide_eq_true_eq, reduceIte, Bool.false_eq_true, Bool.not_true, Bool.not_false, decide_true, decide_false]
  refine (lnumber_ok h0 h2).mono ?_
  rintro _ m1 ⟨k, ds, rfl, K, hN, hl, hkl, G1⟩
  obtain ⟨pre, z, rfl, hp, z0, z1⟩ := hN.form
  have hby := hN.by
  try simp -dsimp only [at0, at1, at2, at3, at4, at5, at6, wp_fn, s_nil, s_brk, s_cnt, s_expr, s_ret, s_retN, s_if, s_asn, s_par, s_asg, g_nm, g_nil, g_cons, g_tupT, g_subW, w_v0, w_vS, w_c, w_op, w_un, w_anil, w_acons, w_tup, w_lst, w_call, w_callU, w_isi, w_meth, w_tru, w_bool, w_notS, w_andS, w_orS, w_ifx, w_andV, w_orV, w_notV, w_chain, wp_ok, wp_bad, wp_some, wp_none, wp_liftif, wp_if, asB_b, wp_noex, add_ii, sub_ii, mul_ii, fdiv_ii, mod_ii, pow_ii, neg_i, cmp_ii, lt_ii, le_ii, gt_ii, ge_ii, le_cc, muls_ii, muls_si, ins_cs, iadd_ii, isub_ii, w_onone, w_osome, w_sl, sl_s, sl_t, s_aug, eq_ss, len_s, ix_s, add_ss, str_s, tuple_t, list_t, is_n, not_n, non_n, non_i, non_b, non_s, non_t, non_r, abs_i, max_ii, min_ii, int_i, int_b, gcd_ii, len_t, ix_t, eq_v, ne_v, eq_ii, eq_bb, eq_nn, eq_in, eq_ni, iv_n_list, iv_n_tuple, iv_n_bool, iv_n_str, iv_n_int, okt_n, iv_b_list, iv_b_tuple, iv_b_bool, iv_b_str, iv_b_int, okt_b, iv_i_list, iv_i_tuple, iv_i_bool, iv_i_str, iv_i_int, okt_i, iv_s_list, iv_s_tuple, iv_s_bool, iv_s_str, iv_s_int, okt_s, iv_t_list, iv_t_tuple, iv_t_bool, iv_t_str, iv_t_int, okt_t, iv_r_list, iv_r_tuple, iv_r_bool, iv_r_str, iv_r_int, tru_b, tru_i, tru_n, tru_t, Option.map_some, Option.map_none, List.map_cons, List.map_nil, List.length_cons, List.length_nil, List.set_cons_zero, List.set_cons_succ, List.cons_append, List.nil_append, List.replicate, Nat.reduceAdd, Nat.reduceSub, Nat.reduceLeDiff, true_and, and_true, decide_eq_true_eq, reduceIte, Bool.false_eq_true, Bool.not_true, Bool.not_false, decide_true, decide_false]
  refine s_cut (mid := fun l m' => l = [some (.int n), some (.ref k)] ∧ Gr m1 m') ?_ ?_
  · try simp -dsimp only [at0, at1, at2, at3, at4, at5, at6, wp_fn, s_nil, s_brk, s_cnt, s_expr, s_ret, s_retN, s_if, s_asn, s_par, s_asg, g_nm, g_nil, g_cons, g_tupT, g_subW, w_v0, w_vS, w_c, w_op, w_un, w_anil, w_acons, w_tup, w_lst, w_call, w_callU, w_isi, w_meth, w_tru, w_bool, w_notS, w_andS, w_orS, w_ifx, w_andV, w_orV, w_notV, w_chain, wp_ok, wp_bad, wp_some, wp_none, wp_liftif, wp_if, asB_b, wp_noex, add_ii, sub_ii, mul_ii, fdiv_ii, mod_ii, pow_ii, neg_i, cmp_ii, lt_ii, le_ii, gt_ii, ge_ii, le_cc, muls_ii, muls_si, ins_cs, iadd_ii, isub_ii, w_onone, w_osome, w_sl, sl_s, sl_t, s_aug, eq_ss, len_s, ix_s, add_ss, str_s, tuple_t, list_t, is_n, not_n, non_n, non_i, non_b, non_s, non_t, non_r, abs_i, max_ii, min_ii, int_i, int_b, gcd_ii, len_t, ix_t, eq_v, ne_v, eq_ii, eq_bb, eq_nn, eq_in, eq_ni, iv_n_list, iv_n_tuple, iv_n_bool, iv_n_str, iv_n_int, okt_n, iv_b_list, iv_b_tuple, iv_b_bool, iv_b_str, iv_b_int, okt_b, iv_i_list, iv_i_tuple, iv_i_bool, iv_i_str, iv_i_int, okt_i, iv_s_list, iv_s_tuple, iv_s_bool, iv_s_str, iv_s_int, okt_s, iv_t_list, iv_t_tuple, iv_t_bool, iv_t_str, iv_t_int, okt_t, iv_r_list, iv_r_tuple, iv_r_bool, iv_r_str, iv_r_int, tru_b, tru_i, tru_n, tru_t, Option.map_some, Option.map_none, List.map_cons, List.map_nil, List.length_cons, List.length_nil, List.set_cons_zero, List.set_cons_succ, List.cons_append, List.nil_append, List.replicate, Nat.reduceAdd, Nat.reduceSub, Nat.reduceLeDiff, true_and, and_true, decide_eq_true_eq, reduceIte, Bool.false_eq_true, Bool.not_true, Bool.not_false, decide_true, decide_false]
    refine (numbytes_ok h0 h2).mono ?_
    rintro _ m2 ⟨k2, ds2, rfl, K2, hN2, hl2, _, G2⟩
    have e := hN2.uniq hN
    subst e
    try simp -dsimp only [list_r (seq_of_lst K2), at0, at1, at2, at3, at4, at5, at6, wp_fn, s_nil, s_brk, s_cnt, s_expr, s_ret, s_retN, s_if, s_asn, s_par, s_asg, g_nm, g_nil, g_cons, g_tupT, g_subW, w_v0, w_vS, w_c, w_op, w_un, w_anil, w_acons, w_tup, w_lst, w_call, w_callU, w_isi, w_meth, w_tru, w_bool, w_notS, w_andS, w_orS, w_ifx, w_andV, w_orV, w_notV, w_chain, wp_ok, wp_bad, wp_some, wp_none, wp_liftif, wp_if, asB_b, wp_noex, add_ii, sub_ii, mul_ii, fdiv_ii, mod_ii, pow_ii, neg_i, cmp_ii, lt_ii, le_ii, gt_ii, ge_ii, le_cc, muls_ii, muls_si, ins_cs, iadd_ii, isub_ii, w_onone, w_osome, w_sl, sl_s, sl_t, s_aug, eq_ss, len_s, ix_s, add_ss, str_s, tuple_t, list_t, is_n, not_n, non_n, non_i, non_b, non_s, non_t, non_r, abs_i, max_ii, min_ii, int_i, int_b, gcd_ii, len_t, ix_t, eq_v, ne_v, eq_ii, eq_bb, eq_nn, eq_in, eq_ni, iv_n_list, iv_n_tuple, iv_n_bool, iv_n_str, iv_n_int, okt_n, iv_b_list, iv_b_tuple, iv_b_bool, iv_b_str, iv_b_int, okt_b, iv_i_list, iv_i_tuple, iv_i_bool, iv_i_str, iv_i_int, okt_i, iv_s_list, iv_s_tuple, iv_s_bool, iv_s_str, iv_s_int, okt_s, iv_t_list, iv_t_tuple, iv_t_bool, iv_t_str, iv_t_int, okt_t, iv_r_list, iv_r_tuple, iv_r_bool, iv_r_str, iv_r_int, tru_b, tru_i, tru_n, tru_t, Option.map_some, Option.map_none, List.map_cons, List.map_nil, List.length_cons, List.length_nil, List.set_cons_zero, List.set_cons_succ, List.cons_append, List.nil_append, List.replicate, Nat.reduceAdd, Nat.reduceSub, Nat.reduceLeDiff, true_and, and_true, decide_eq_true_eq, reduceIte, Bool.false_eq_true, Bool.not_true, Bool.not_false, decide_true, decide_false]
    rw [eq_ints (seq_of_lst get_new) (seq_of_lst (get_old (G2.get _ _ K)))]
    try simp -dsimp only [at0, at1, at2, at3, at4, at5, at6, wp_fn, s_nil, s_brk, s_cnt, s_expr, s_ret, s_retN, s_if, s_asn, s_par, s_asg, g_nm, g_nil, g_cons, g_tupT, g_subW, w_v0, w_vS, w_c, w_op, w_un, w_anil, w_acons, w_tup, w_lst, w_call, w_callU, w_isi, w_meth, w_tru, w_bool, w_notS, w_andS, w_orS, w_ifx, w_andV, w_orV, w_notV, w_chain, wp_ok, wp_bad, wp_some, wp_none, wp_liftif, wp_if, asB_b, wp_noex, add_ii, sub_ii, mul_ii, fdiv_ii, mod_ii, pow_ii, neg_i, cmp_ii, lt_ii, le_ii, gt_ii, ge_ii, le_cc, muls_ii, muls_si, ins_cs, iadd_ii, isub_ii, w_onone, w_osome, w_sl, sl_s, sl_t, s_aug, eq_ss, len_s, ix_s, add_ss, str_s, tuple_t, list_t, is_n, not_n, non_n, non_i, non_b, non_s, non_t, non_r, abs_i, max_ii, min_ii, int_i, int_b, gcd_ii, len_t, ix_t, eq_v, ne_v, eq_ii, eq_bb, eq_nn, eq_in, eq_ni, iv_n_list, iv_n_tuple, iv_n_bool, iv_n_str, iv_n_int, okt_n, iv_b_list, iv_b_tuple, iv_b_bool, iv_b_str, iv_b_int, okt_b, iv_i_list, iv_i_tuple, iv_i_bool, iv_i_str, iv_i_int, okt_i, iv_s_list, iv_s_tuple, iv_s_bool, iv_s_str, iv_s_int, okt_s, iv_t_list, iv_t_tuple, iv_t_bool, iv_t_str, iv_t_int, okt_t, iv_r_list, iv_r_tuple, iv_r_bool, iv_r_str, iv_r_int, tru_b, tru_i, tru_n, tru_t, Option.map_some, Option.map_none, List.map_cons, List.map_nil, List.length_cons, List.length_nil, List.set_cons_zero, List.set_cons_succ, List.cons_append, List.nil_append, List.replicate, Nat.reduceAdd, Nat.reduceSub, Nat.reduceLeDiff, true_and, and_true, decide_eq_true_eq, reduceIte, Bool.false_eq_true, Bool.not_true, Bool.not_false, decide_true, decide_false]
    have K3 := get_old (o := MO.lst ((pre ++ [z]).map PV.int)) (G2.get _ _ K)
    have G3 := G2.push (MO.lst ((pre ++ [z]).map PV.int))
    generalize m2 ++ [MO.lst ((pre ++ [z]).map PV.int)] = m3 at *
    have hll : pre.length ≤ 20 := by rw [List.length_append] at hl; simp at hl; omega
    have K4 := get_old (o := MO.lst [PV.int 9, .int 9]) K3
    have G4 := G3.push (MO.lst [PV.int 9, .int 9])
    have A4 := get_new (m := m3) (o := MO.lst [PV.int 9, .int 9])
    generalize m3 ++ [MO.lst [PV.int 9, .int 9]] = m4 at *
    rw [add_rr (lst_of A4) (lst_of K4), if_pos (by rw [List.length_map, List.length_append]; simp; omega)]
    have eC : ([PV.int 9, .int 9] ++ (pre ++ [z]).map .int : List PV) = PV.int 9 :: PV.int 9 :: (pre ++ [z]).map .int := rfl
    rw [eC]
    try simp -dsimp only [at0, at1, at2, at3, at4, at5, at6, wp_fn, s_nil, s_brk, s_cnt, s_expr, s_ret, s_retN, s_if, s_asn, s_par, s_asg, g_nm, g_nil, g_cons, g_tupT, g_subW, w_v0, w_vS, w_c, w_op, w_un, w_anil, w_acons, w_tup, w_lst, w_call, w_callU, w_isi, w_meth, w_tru, w_bool, w_notS, w_andS, w_orS, w_ifx, w_andV, w_orV, w_notV, w_chain, wp_ok, wp_bad, wp_some, wp_none, wp_liftif, wp_if, asB_b, wp_noex, add_ii, sub_ii, mul_ii, fdiv_ii, mod_ii, pow_ii, neg_i, cmp_ii, lt_ii, le_ii, gt_ii, ge_ii, le_cc, muls_ii, muls_si, ins_cs, iadd_ii, isub_ii, w_onone, w_osome, w_sl, sl_s, sl_t, s_aug, eq_ss, len_s, ix_s, add_ss, str_s, tuple_t, list_t, is_n, not_n, non_n, non_i, non_b, non_s, non_t, non_r, abs_i, max_ii, min_ii, int_i, int_b, gcd_ii, len_t, ix_t, eq_v, ne_v, eq_ii, eq_bb, eq_nn, eq_in, eq_ni, iv_n_list, iv_n_tuple, iv_n_bool, iv_n_str, iv_n_int, okt_n, iv_b_list, iv_b_tuple, iv_b_bool, iv_b_str, iv_b_int, okt_b, iv_i_list, iv_i_tuple, iv_i_bool, iv_i_str, iv_i_int, okt_i, iv_s_list, iv_s_tuple, iv_s_bool, iv_s_str, iv_s_int, okt_s, iv_t_list, iv_t_tuple, iv_t_bool, iv_t_str, iv_t_int, okt_t, iv_r_list, iv_r_tuple, iv_r_bool, iv_r_str, iv_r_int, tru_b, tru_i, tru_n, tru_t, Option.map_some, Option.map_none, List.map_cons, List.map_nil, List.length_cons, List.length_nil, List.set_cons_zero, List.set_cons_succ, List.cons_append, List.nil_append, List.replicate, Nat.reduceAdd, Nat.reduceSub, Nat.reduceLeDiff, true_and, and_true, decide_eq_true_eq, reduceIte, Bool.false_eq_true, Bool.not_true, Bool.not_false, decide_true, decide_false]
    have B5 := get_new (m := m4) (o := MO.lst (PV.int 9 :: PV.int 9 :: (pre ++ [z]).map .int))
    have G5 := G4.push (MO.lst (PV.int 9 :: PV.int 9 :: (pre ++ [z]).map .int))
    have K5 := get_old (o := MO.lst (PV.int 9 :: PV.int 9 :: (pre ++ [z]).map .int)) K4
    generalize m4 ++ [MO.lst (PV.int 9 :: PV.int 9 :: (pre ++ [z]).map .int)] = m5 at *
    rw [add_rr (lst_of (get_old B5)) (lst_of get_new), if_pos (by simp; omega)]
    try simp -dsimp only [at0, at1, at2, at3, at4, at5, at6, wp_fn, s_nil, s_brk, s_cnt, s_expr, s_ret, s_retN, s_if, s_asn, s_par, s_asg, g_nm, g_nil, g_cons, g_tupT, g_subW, w_v0, w_vS, w_c, w_op, w_un, w_anil, w_acons, w_tup, w_lst, w_call, w_callU, w_isi, w_meth, w_tru, w_bool, w_notS, w_andS, w_orS, w_ifx, w_andV, w_orV, w_notV, w_chain, wp_ok, wp_bad, wp_some, wp_none, wp_liftif, wp_if, asB_b, wp_noex, add_ii, sub_ii, mul_ii, fdiv_ii, mod_ii, pow_ii, neg_i, cmp_ii, lt_ii, le_ii, gt_ii, ge_ii, le_cc, muls_ii, muls_si, ins_cs, iadd_ii, isub_ii, w_onone, w_osome, w_sl, sl_s, sl_t, s_aug, eq_ss, len_s, ix_s, add_ss, str_s, tuple_t, list_t, is_n, not_n, non_n, non_i, non_b, non_s, non_t, non_r, abs_i, max_ii, min_ii, int_i, int_b, gcd_ii, len_t, ix_t, eq_v, ne_v, eq_ii, eq_bb, eq_nn, eq_in, eq_ni, iv_n_list, iv_n_tuple, iv_n_bool, iv_n_str, iv_n_int, okt_n, iv_b_list, iv_b_tuple, iv_b_bool, iv_b_str, iv_b_int, okt_b, iv_i_list, iv_i_tuple, iv_i_bool, iv_i_str, iv_i_int, okt_i, iv_s_list, iv_s_tuple, iv_s_bool, iv_s_str, iv_s_int, okt_s, iv_t_list, iv_t_tuple, iv_t_bool, iv_t_str, iv_t_int, okt_t, iv_r_list, iv_r_tuple, iv_r_bool, iv_r_str, iv_r_int, tru_b, tru_i, tru_n, tru_t, Option.map_some, Option.map_none, List.map_cons, List.map_nil, List.length_cons, List.length_nil, List.set_cons_zero, List.set_cons_succ, List.cons_append, List.nil_append, List.replicate, Nat.reduceAdd, Nat.reduceSub, Nat.reduceLeDiff, true_and, and_true, decide_eq_true_eq, reduceIte, Bool.false_eq_true, Bool.not_true, Bool.not_false, decide_true, decide_false]
    have B6 := get_new (m := m5 ++ [MO.lst [PV.int 7]]) (o := MO.lst (PV.int 9 :: PV.int 9 :: ((pre ++ [z]).map .int ++ [.int 7])))
    have K6 := get_old (o := MO.lst (PV.int 9 :: PV.int 9 :: ((pre ++ [z]).map .int ++ [.int 7]))) (get_old (o := MO.lst [PV.int 7]) K5)
    have G6 := (G5.push (MO.lst [PV.int 7])).push (MO.lst (PV.int 9 :: PV.int 9 :: ((pre ++ [z]).map .int ++ [.int 7])))
    generalize (m5 ++ [MO.lst [PV.int 7]]) ++ [MO.lst (PV.int 9 :: PV.int 9 :: ((pre ++ [z]).map .int ++ [.int 7]))] = m6 at *
    generalize (m5 ++ [MO.lst [PV.int 7]]).length = b6 at *
    have eB : PV.int 9 :: PV.int 9 :: ((pre ++ [z]).map .int ++ [.int 7]) = ([9, 9] ++ (pre ++ [z]) ++ [7]).map PV.int := by simp
    rw [eB] at B6
    refine (rn m6 b6 2 _ B6 (fun x hx => ?_) (by simp; simp at hl; omega) (by decide)).mono ?_
    · rcases List.mem_append.mp hx with hx | hx
      · rcases List.mem_append.mp hx with hx | hx
        · simp at hx; omega
        · exact hby x hx
      · simp at hx; omega
    · rintro _ m7 ⟨rfl, rfl⟩
      have er : rdL true 0 1 (([9, 9] ++ (pre ++ [z]) ++ [7]).drop 2) = some (0 + n * 1, (pre ++ [z]).length) := by
        have := hN.read true 0 1 [7] (.inl rfl)
        exact this
      rw [er]
      unfold rdV
      try simp -dsimp only [len_r (seq_of_lst K6), at0, at1, at2, at3, at4, at5, at6, wp_fn, s_nil, s_brk, s_cnt, s_expr, s_ret, s_retN, s_if, s_asn, s_par, s_asg, g_nm, g_nil, g_cons, g_tupT, g_subW, w_v0, w_vS, w_c, w_op, w_un, w_anil, w_acons, w_tup, w_lst, w_call, w_callU, w_isi, w_meth, w_tru, w_bool, w_notS, w_andS, w_orS, w_ifx, w_andV, w_orV, w_notV, w_chain, wp_ok, wp_bad, wp_some, wp_none, wp_liftif, wp_if, asB_b, wp_noex, add_ii, sub_ii, mul_ii, fdiv_ii, mod_ii, pow_ii, neg_i, cmp_ii, lt_ii, le_ii, gt_ii, ge_ii, le_cc, muls_ii, muls_si, ins_cs, iadd_ii, isub_ii, w_onone, w_osome, w_sl, sl_s, sl_t, s_aug, eq_ss, len_s, ix_s, add_ss, str_s, tuple_t, list_t, is_n, not_n, non_n, non_i, non_b, non_s, non_t, non_r, abs_i, max_ii, min_ii, int_i, int_b, gcd_ii, len_t, ix_t, eq_v, ne_v, eq_ii, eq_bb, eq_nn, eq_in, eq_ni, iv_n_list, iv_n_tuple, iv_n_bool, iv_n_str, iv_n_int, okt_n, iv_b_list, iv_b_tuple, iv_b_bool, iv_b_str, iv_b_int, okt_b, iv_i_list, iv_i_tuple, iv_i_bool, iv_i_str, iv_i_int, okt_i, iv_s_list, iv_s_tuple, iv_s_bool, iv_s_str, iv_s_int, okt_s, iv_t_list, iv_t_tuple, iv_t_bool, iv_t_str, iv_t_int, okt_t, iv_r_list, iv_r_tuple, iv_r_bool, iv_r_str, iv_r_int, tru_b, tru_i, tru_n, tru_t, Option.map_some, Option.map_none, List.map_cons, List.map_nil, List.length_cons, List.length_nil, List.set_cons_zero, List.set_cons_succ, List.cons_append, List.nil_append, List.replicate, Nat.reduceAdd, Nat.reduceSub, Nat.reduceLeDiff, true_and, and_true, decide_eq_true_eq, reduceIte, Bool.false_eq_true, Bool.not_true, Bool.not_false, decide_true, decide_false]
      rw [eq_pair, decide_eq_true (by simp)]
      try simp -dsimp only [at0, at1, at2, at3, at4, at5, at6, wp_fn, s_nil, s_brk, s_cnt, s_expr, s_ret, s_retN, s_if, s_asn, s_par, s_asg, g_nm, g_nil, g_cons, g_tupT, g_subW, w_v0, w_vS, w_c, w_op, w_un, w_anil, w_acons, w_tup, w_lst, w_call, w_callU, w_isi, w_meth, w_tru, w_bool, w_notS, w_andS, w_orS, w_ifx, w_andV, w_orV, w_notV, w_chain, wp_ok, wp_bad, wp_some, wp_none, wp_liftif, wp_if, asB_b, wp_noex, add_ii, sub_ii, mul_ii, fdiv_ii, mod_ii, pow_ii, neg_i, cmp_ii, lt_ii, le_ii, gt_ii, ge_ii, le_cc, muls_ii, muls_si, ins_cs, iadd_ii, isub_ii, w_onone, w_osome, w_sl, sl_s, sl_t, s_aug, eq_ss, len_s, ix_s, add_ss, str_s, tuple_t, list_t, is_n, not_n, non_n, non_i, non_b, non_s, non_t, non_r, abs_i, max_ii, min_ii, int_i, int_b, gcd_ii, len_t, ix_t, eq_v, ne_v, eq_ii, eq_bb, eq_nn, eq_in, eq_ni, iv_n_list, iv_n_tuple, iv_n_bool, iv_n_str, iv_n_int, okt_n, iv_b_list, iv_b_tuple, iv_b_bool, iv_b_str, iv_b_int, okt_b, iv_i_list, iv_i_tuple, iv_i_bool, iv_i_str, iv_i_int, okt_i, iv_s_list, iv_s_tuple, iv_s_bool, iv_s_str, iv_s_int, okt_s, iv_t_list, iv_t_tuple, iv_t_bool, iv_t_str, iv_t_int, okt_t, iv_r_list, iv_r_tuple, iv_r_bool, iv_r_str, iv_r_int, tru_b, tru_i, tru_n, tru_t, Option.map_some, Option.map_none, List.map_cons, List.map_nil, List.length_cons, List.length_nil, List.set_cons_zero, List.set_cons_succ, List.cons_append, List.nil_append, List.replicate, Nat.reduceAdd, Nat.reduceSub, Nat.reduceLeDiff, true_and, and_true, decide_eq_true_eq, reduceIte, Bool.false_eq_true, Bool.not_true, Bool.not_false, decide_true, decide_false]
      exact G6
  rintro _ m2 ⟨rfl, G2⟩
  have K2 := G2.get _ _ K
  have eK : (pre ++ [z]).map PV.int = pre.map .int ++ [.int z] := by rw [List.map_append]; rfl
  rw [eK] at K2
  have hpb : ∀ x ∈ pre, 0 ≤ x ∧ x < 256 := fun x hx => by have := hp x hx; omega
  have hll : pre.length ≤ 20 := by simp at hl; omega
  have rc := hN.cut (k := pre.length) (by simp) true 0 1
  rw [List.take_left] at rc
  have rz := hN.zero true 0 1
  try simp -dsimp only [at0, at1, at2, at3, at4, at5, at6, wp_fn, s_nil, s_brk, s_cnt, s_expr, s_ret, s_retN, s_if, s_asn, s_par, s_asg, g_nm, g_nil, g_cons, g_tupT, g_subW, w_v0, w_vS, w_c, w_op, w_un, w_anil, w_acons, w_tup, w_lst, w_call, w_callU, w_isi, w_meth, w_tru, w_bool, w_notS, w_andS, w_orS, w_ifx, w_andV, w_orV, w_notV, w_chain, wp_ok, wp_bad, wp_some, wp_none, wp_liftif, wp_if, asB_b, wp_noex, add_ii, sub_ii, mul_ii, fdiv_ii, mod_ii, pow_ii, neg_i, cmp_ii, lt_ii, le_ii, gt_ii, ge_ii, le_cc, muls_ii, muls_si, ins_cs, iadd_ii, isub_ii, w_onone, w_osome, w_sl, sl_s, sl_t, s_aug, eq_ss, len_s, ix_s, add_ss, str_s, tuple_t, list_t, is_n, not_n, non_n, non_i, non_b, non_s, non_t, non_r, abs_i, max_ii, min_ii, int_i, int_b, gcd_ii, len_t, ix_t, eq_v, ne_v, eq_ii, eq_bb, eq_nn, eq_in, eq_ni, iv_n_list, iv_n_tuple, iv_n_bool, iv_n_str, iv_n_int, okt_n, iv_b_list, iv_b_tuple, iv_b_bool, iv_b_str, iv_b_int, okt_b, iv_i_list, iv_i_tuple, iv_i_bool, iv_i_str, iv_i_int, okt_i, iv_s_list, iv_s_tuple, iv_s_bool, iv_s_str, iv_s_int, okt_s, iv_t_list, iv_t_tuple, iv_t_bool, iv_t_str, iv_t_int, okt_t, iv_r_list, iv_r_tuple, iv_r_bool, iv_r_str, iv_r_int, tru_b, tru_i, tru_n, tru_t, Option.map_some, Option.map_none, List.map_cons, List.map_nil, List.length_cons, List.length_nil, List.set_cons_zero, List.set_cons_succ, List.cons_append, List.nil_append, List.replicate, Nat.reduceAdd, Nat.reduceSub, Nat.reduceLeDiff, true_and, and_true, decide_eq_true_eq, reduceIte, Bool.false_eq_true, Bool.not_true, Bool.not_false, decide_true, decide_false]
  rw [slr_r (seq_of_lst K2), cut_m1]
  try simp -dsimp only [at0, at1, at2, at3, at4, at5, at6, wp_fn, s_nil, s_brk, s_cnt, s_expr, s_ret, s_retN, s_if, s_asn, s_par, s_asg, g_nm, g_nil, g_cons, g_tupT, g_subW, w_v0, w_vS, w_c, w_op, w_un, w_anil, w_acons, w_tup, w_lst, w_call, w_callU, w_isi, w_meth, w_tru, w_bool, w_notS, w_andS, w_orS, w_ifx, w_andV, w_orV, w_notV, w_chain, wp_ok, wp_bad, wp_some, wp_none, wp_liftif, wp_if, asB_b, wp_noex, add_ii, sub_ii, mul_ii, fdiv_ii, mod_ii, pow_ii, neg_i, cmp_ii, lt_ii, le_ii, gt_ii, ge_ii, le_cc, muls_ii, muls_si, ins_cs, iadd_ii, isub_ii, w_onone, w_osome, w_sl, sl_s, sl_t, s_aug, eq_ss, len_s, ix_s, add_ss, str_s, tuple_t, list_t, is_n, not_n, non_n, non_i, non_b, non_s, non_t, non_r, abs_i, max_ii, min_ii, int_i, int_b, gcd_ii, len_t, ix_t, eq_v, ne_v, eq_ii, eq_bb, eq_nn, eq_in, eq_ni, iv_n_list, iv_n_tuple, iv_n_bool, iv_n_str, iv_n_int, okt_n, iv_b_list, iv_b_tuple, iv_b_bool, iv_b_str, iv_b_int, okt_b, iv_i_list, iv_i_tuple, iv_i_bool, iv_i_str, iv_i_int, okt_i, iv_s_list, iv_s_tuple, iv_s_bool, iv_s_str, iv_s_int, okt_s, iv_t_list, iv_t_tuple, iv_t_bool, iv_t_str, iv_t_int, okt_t, iv_r_list, iv_r_tuple, iv_r_bool, iv_r_str, iv_r_int, tru_b, tru_i, tru_n, tru_t, Option.map_some, Option.map_none, List.map_cons, List.map_nil, List.length_cons, List.length_nil, List.set_cons_zero, List.set_cons_succ, List.cons_append, List.nil_append, List.replicate, Nat.reduceAdd, Nat.reduceSub, Nat.reduceLeDiff, true_and, and_true, decide_eq_true_eq, reduceIte, Bool.false_eq_true, Bool.not_true, Bool.not_false, decide_true, decide_false]
  refine (rn _ _ 0 pre get_new hpb (by omega) (by decide)).mono ?_
  rintro _ m3 ⟨rfl, rfl⟩
  rw [List.drop_zero, rc]
  unfold rdV
  try simp -dsimp only [at0, at1, at2, at3, at4, at5, at6, wp_fn, s_nil, s_brk, s_cnt, s_expr, s_ret, s_retN, s_if, s_asn, s_par, s_asg, g_nm, g_nil, g_cons, g_tupT, g_subW, w_v0, w_vS, w_c, w_op, w_un, w_anil, w_acons, w_tup, w_lst, w_call, w_callU, w_isi, w_meth, w_tru, w_bool, w_notS, w_andS, w_orS, w_ifx, w_andV, w_orV, w_notV, w_chain, wp_ok, wp_bad, wp_some, wp_none, wp_liftif, wp_if, asB_b, wp_noex, add_ii, sub_ii, mul_ii, fdiv_ii, mod_ii, pow_ii, neg_i, cmp_ii, lt_ii, le_ii, gt_ii, ge_ii, le_cc, muls_ii, muls_si, ins_cs, iadd_ii, isub_ii, w_onone, w_osome, w_sl, sl_s, sl_t, s_aug, eq_ss, len_s, ix_s, add_ss, str_s, tuple_t, list_t, is_n, not_n, non_n, non_i, non_b, non_s, non_t, non_r, abs_i, max_ii, min_ii, int_i, int_b, gcd_ii, len_t, ix_t, eq_v, ne_v, eq_ii, eq_bb, eq_nn, eq_in, eq_ni, iv_n_list, iv_n_tuple, iv_n_bool, iv_n_str, iv_n_int, okt_n, iv_b_list, iv_b_tuple, iv_b_bool, iv_b_str, iv_b_int, okt_b, iv_i_list, iv_i_tuple, iv_i_bool, iv_i_str, iv_i_int, okt_i, iv_s_list, iv_s_tuple, iv_s_bool, iv_s_str, iv_s_int, okt_s, iv_t_list, iv_t_tuple, iv_t_bool, iv_t_str, iv_t_int, okt_t, iv_r_list, iv_r_tuple, iv_r_bool, iv_r_str, iv_r_int, tru_b, tru_i, tru_n, tru_t, Option.map_some, Option.map_none, List.map_cons, List.map_nil, List.length_cons, List.length_nil, List.set_cons_zero, List.set_cons_succ, List.cons_append, List.nil_append, List.replicate, Nat.reduceAdd, Nat.reduceSub, Nat.reduceLeDiff, true_and, and_true, decide_eq_true_eq, reduceIte, Bool.false_eq_true, Bool.not_true, Bool.not_false, decide_true, decide_false]
  have K3 := get_old (o := MO.lst (pre.map PV.int)) K2
  have G3 := G2.push (MO.lst (pre.map PV.int))
  generalize m2 ++ [MO.lst (pre.map PV.int)] = m3 at *
  rw [slr_r (seq_of_lst K3), cut_m1]
  try simp -dsimp only [at0, at1, at2, at3, at4, at5, at6, wp_fn, s_nil, s_brk, s_cnt, s_expr, s_ret, s_retN, s_if, s_asn, s_par, s_asg, g_nm, g_nil, g_cons, g_tupT, g_subW, w_v0, w_vS, w_c, w_op, w_un, w_anil, w_acons, w_tup, w_lst, w_call, w_callU, w_isi, w_meth, w_tru, w_bool, w_notS, w_andS, w_orS, w_ifx, w_andV, w_orV, w_notV, w_chain, wp_ok, wp_bad, wp_some, wp_none, wp_liftif, wp_if, asB_b, wp_noex, add_ii, sub_ii, mul_ii, fdiv_ii, mod_ii, pow_ii, neg_i, cmp_ii, lt_ii, le_ii, gt_ii, ge_ii, le_cc, muls_ii, muls_si, ins_cs, iadd_ii, isub_ii, w_onone, w_osome, w_sl, sl_s, sl_t, s_aug, eq_ss, len_s, ix_s, add_ss, str_s, tuple_t, list_t, is_n, not_n, non_n, non_i, non_b, non_s, non_t, non_r, abs_i, max_ii, min_ii, int_i, int_b, gcd_ii, len_t, ix_t, eq_v, ne_v, eq_ii, eq_bb, eq_nn, eq_in, eq_ni, iv_n_list, iv_n_tuple, iv_n_bool, iv_n_str, iv_n_int, okt_n, iv_b_list, iv_b_tuple, iv_b_bool, iv_b_str, iv_b_int, okt_b, iv_i_list, iv_i_tuple, iv_i_bool, iv_i_str, iv_i_int, okt_i, iv_s_list, iv_s_tuple, iv_s_bool, iv_s_str, iv_s_int, okt_s, iv_t_list, iv_t_tuple, iv_t_bool, iv_t_str, iv_t_int, okt_t, iv_r_list, iv_r_tuple, iv_r_bool, iv_r_str, iv_r_int, tru_b, tru_i, tru_n, tru_t, Option.map_some, Option.map_none, List.map_cons, List.map_nil, List.length_cons, List.length_nil, List.set_cons_zero, List.set_cons_succ, List.cons_append, List.nil_append, List.replicate, Nat.reduceAdd, Nat.reduceSub, Nat.reduceLeDiff, true_and, and_true, decide_eq_true_eq, reduceIte, Bool.false_eq_true, Bool.not_true, Bool.not_false, decide_true, decide_false]
  have K4 := get_old (o := MO.lst (pre.map PV.int)) K3
  have S4 := get_new (m := m3) (o := MO.lst (pre.map PV.int))
  have G4 := G3.push (MO.lst (pre.map PV.int))
  generalize m3 ++ [MO.lst (pre.map PV.int)] = m4 at *
  generalize m3.length = s4 at *
  rw [ix_r (seq_of_lst K4), at_m1]
  try simp -dsimp only [at0, at1, at2, at3, at4, at5, at6, wp_fn, s_nil, s_brk, s_cnt, s_expr, s_ret, s_retN, s_if, s_asn, s_par, s_asg, g_nm, g_nil, g_cons, g_tupT, g_subW, w_v0, w_vS, w_c, w_op, w_un, w_anil, w_acons, w_tup, w_lst, w_call, w_callU, w_isi, w_meth, w_tru, w_bool, w_notS, w_andS, w_orS, w_ifx, w_andV, w_orV, w_notV, w_chain, wp_ok, wp_bad, wp_some, wp_none, wp_liftif, wp_if, asB_b, wp_noex, add_ii, sub_ii, mul_ii, fdiv_ii, mod_ii, pow_ii, neg_i, cmp_ii, lt_ii, le_ii, gt_ii, ge_ii, le_cc, muls_ii, muls_si, ins_cs, iadd_ii, isub_ii, w_onone, w_osome, w_sl, sl_s, sl_t, s_aug, eq_ss, len_s, ix_s, add_ss, str_s, tuple_t, list_t, is_n, not_n, non_n, non_i, non_b, non_s, non_t, non_r, abs_i, max_ii, min_ii, int_i, int_b, gcd_ii, len_t, ix_t, eq_v, ne_v, eq_ii, eq_bb, eq_nn, eq_in, eq_ni, iv_n_list, iv_n_tuple, iv_n_bool, iv_n_str, iv_n_int, okt_n, iv_b_list, iv_b_tuple, iv_b_bool, iv_b_str, iv_b_int, okt_b, iv_i_list, iv_i_tuple, iv_i_bool, iv_i_str, iv_i_int, okt_i, iv_s_list, iv_s_tuple, iv_s_bool, iv_s_str, iv_s_int, okt_s, iv_t_list, iv_t_tuple, iv_t_bool, iv_t_str, iv_t_int, okt_t, iv_r_list, iv_r_tuple, iv_r_bool, iv_r_str, iv_r_int, tru_b, tru_i, tru_n, tru_t, Option.map_some, Option.map_none, List.map_cons, List.map_nil, List.length_cons, List.length_nil, List.set_cons_zero, List.set_cons_succ, List.cons_append, List.nil_append, List.replicate, Nat.reduceAdd, Nat.reduceSub, Nat.reduceLeDiff, true_and, and_true, decide_eq_true_eq, reduceIte, Bool.false_eq_true, Bool.not_true, Bool.not_false, decide_true, decide_false]
  rw [add_rr (lst_of (get_old S4)) (lst_of get_new), if_pos (by simp; omega)]
  try simp -dsimp only [at0, at1, at2, at3, at4, at5, at6, wp_fn, s_nil, s_brk, s_cnt, s_expr, s_ret, s_retN, s_if, s_asn, s_par, s_asg, g_nm, g_nil, g_cons, g_tupT, g_subW, w_v0, w_vS, w_c, w_op, w_un, w_anil, w_acons, w_tup, w_lst, w_call, w_callU, w_isi, w_meth, w_tru, w_bool, w_notS, w_andS, w_orS, w_ifx, w_andV, w_orV, w_notV, w_chain, wp_ok, wp_bad, wp_some, wp_none, wp_liftif, wp_if, asB_b, wp_noex, add_ii, sub_ii, mul_ii, fdiv_ii, mod_ii, pow_ii, neg_i, cmp_ii, lt_ii, le_ii, gt_ii, ge_ii, le_cc, muls_ii, muls_si, ins_cs, iadd_ii, isub_ii, w_onone, w_osome, w_sl, sl_s, sl_t, s_aug, eq_ss, len_s, ix_s, add_ss, str_s, tuple_t, list_t, is_n, not_n, non_n, non_i, non_b, non_s, non_t, non_r, abs_i, max_ii, min_ii, int_i, int_b, gcd_ii, len_t, ix_t, eq_v, ne_v, eq_ii, eq_bb, eq_nn, eq_in, eq_ni, iv_n_list, iv_n_tuple, iv_n_bool, iv_n_str, iv_n_int, okt_n, iv_b_list, iv_b_tuple, iv_b_bool, iv_b_str, iv_b_int, okt_b, iv_i_list, iv_i_tuple, iv_i_bool, iv_i_str, iv_i_int, okt_i, iv_s_list, iv_s_tuple, iv_s_bool, iv_s_str, iv_s_int, okt_s, iv_t_list, iv_t_tuple, iv_t_bool, iv_t_str, iv_t_int, okt_t, iv_r_list, iv_r_tuple, iv_r_bool, iv_r_str, iv_r_int, tru_b, tru_i, tru_n, tru_t, Option.map_some, Option.map_none, List.map_cons, List.map_nil, List.length_cons, List.length_nil, List.set_cons_zero, List.set_cons_succ, List.cons_append, List.nil_append, List.replicate, Nat.reduceAdd, Nat.reduceSub, Nat.reduceLeDiff, true_and, and_true, decide_eq_true_eq, reduceIte, Bool.false_eq_true, Bool.not_true, Bool.not_false, decide_true, decide_false]
  have eZ : pre.map PV.int ++ [.int (z + 128), .int 0] = (pre ++ [z + 128, 0]).map PV.int := by simp
  rw [eZ]
  refine (rn _ _ 0 (pre ++ [z + 128, 0]) get_new (fun x hx => ?_) (by simp; omega) (by decide)).mono ?_
  · rcases List.mem_append.mp hx with hx | hx
    · exact hpb x hx
    · simp at hx; omega
  · rintro _ m5 ⟨rfl, rfl⟩
    rw [List.drop_zero, rz]
    unfold rdV
    try simp -dsimp only [at0, at1, at2, at3, at4, at5, at6, wp_fn, s_nil, s_brk, s_cnt, s_expr, s_ret, s_retN, s_if, s_asn, s_par, s_asg, g_nm, g_nil, g_cons, g_tupT, g_subW, w_v0, w_vS, w_c, w_op, w_un, w_anil, w_acons, w_tup, w_lst, w_call, w_callU, w_isi, w_meth, w_tru, w_bool, w_notS, w_andS, w_orS, w_ifx, w_andV, w_orV, w_notV, w_chain, wp_ok, wp_bad, wp_some, wp_none, wp_liftif, wp_if, asB_b, wp_noex, add_ii, sub_ii, mul_ii, fdiv_ii, mod_ii, pow_ii, neg_i, cmp_ii, lt_ii, le_ii, gt_ii, ge_ii, le_cc, muls_ii, muls_si, ins_cs, iadd_ii, isub_ii, w_onone, w_osome, w_sl, sl_s, sl_t, s_aug, eq_ss, len_s, ix_s, add_ss, str_s, tuple_t, list_t, is_n, not_n, non_n, non_i, non_b, non_s, non_t, non_r, abs_i, max_ii, min_ii, int_i, int_b, gcd_ii, len_t, ix_t, eq_v, ne_v, eq_ii, eq_bb, eq_nn, eq_in, eq_ni, iv_n_list, iv_n_tuple, iv_n_bool, iv_n_str, iv_n_int, okt_n, iv_b_list, iv_b_tuple, iv_b_bool, iv_b_str, iv_b_int, okt_b, iv_i_list, iv_i_tuple, iv_i_bool, iv_i_str, iv_i_int, okt_i, iv_s_list, iv_s_tuple, iv_s_bool, iv_s_str, iv_s_int, okt_s, iv_t_list, iv_t_tuple, iv_t_bool, iv_t_str, iv_t_int, okt_t, iv_r_list, iv_r_tuple, iv_r_bool, iv_r_str, iv_r_int, tru_b, tru_i, tru_n, tru_t, Option.map_some, Option.map_none, List.map_cons, List.map_nil, List.length_cons, List.length_nil, List.set_cons_zero, List.set_cons_succ, List.cons_append, List.nil_append, List.replicate, Nat.reduceAdd, Nat.reduceSub, Nat.reduceLeDiff, true_and, and_true, decide_eq_true_eq, reduceIte, Bool.false_eq_true, Bool.not_true, Bool.not_false, decide_true, decide_false]
    exact (G1.trans (G4.push _)).push _
/-! ### records -/
theorem nb_ex : ∀ n : Nat, ∃ ds, Nb (n : Nat) ds := by
  intro n
  induction n using Nat.strongRecOn with
  | ind n ih =>
    by_cases h : n < 128
    · exact ⟨_, .last (by omega) (by omega)⟩
    · obtain ⟨ds, hd⟩ := ih (n / 128) (by omega)
      exact ⟨_, .more (by omega) hd⟩
noncomputable def nbF (n : Int) : List Int := Classical.epsilon (Nb n)
theorem nbF_sp {n : Int} (h : 0 ≤ n) : Nb n (nbF n) := by
  obtain ⟨k, rfl⟩ := Int.eq_ofNat_of_zero_le h
  exact Classical.epsilon_spec (nb_ex k)
theorem Nb.len {n : Int} {ds : List Int} (h : Nb n ds) : ∀ w : Nat, n < 128 ^ (w + 1) → ds.length ≤ w + 1 := by
  induction h with
  | last _ _ => intro w _; simp
  | @more n ds h r ih =>
    intro w hw
    cases w with
    | zero =>
      have : (128 : Int) ^ (0 + 1) = 128 := by decide
      omega
    | succ w =>
      rw [Int.pow_succ] at hw
      have := ih w (Int.ediv_lt_of_lt_mul (by decide) hw)
      simp
      omega
theorem nbF_len {n : Int} (h : 0 ≤ n) (h2 : n < 2097152) : (nbF n).length ≤ 3 := by
  have e : (128 : Int) ^ (2 + 1) = 2097152 := by decide
  exact (nbF_sp h).len 2 (by omega)
def Byt (ds : List Int) : Prop := (∀ d ∈ ds, 0 ≤ d ∧ d < 256) ∧ ds.length ≤ 168
noncomputable def recF (b : List Int) : List Int := nbF (b.length : Nat) ++ b ++ nbF (chk 9 b)
theorem chk9 {b : List Int} : 0 ≤ chk 9 b ∧ chk 9 b < 65521 := chk_bd (by decide) (by decide)
theorem recF_len {b : List Int} (h : Byt b) : (recF b).length ≤ 174 ∧ 0 < (recF b).length := by
  have h1 := nbF_len (n := (b.length : Nat)) (by omega) (by have := h.2; omega)
  have h2 := nbF_len (chk9 (b := b)).1 (by have := (chk9 (b := b)).2; omega)
  have h3 := h.2
  have h4 : 0 < (nbF (b.length : Nat)).length := by
    obtain ⟨pre, z, e, _⟩ := (nbF_sp (n := (b.length : Nat)) (by omega)).form
    rw [e]; simp
  unfold recF
  rw [List.length_append, List.length_append]
  omega
theorem recF_by {b : List Int} (h : Byt b) : ∀ d ∈ recF b, 0 ≤ d ∧ d < 256 := by
  intro d hd
  rcases List.mem_append.mp hd with hd | hd
  · rcases List.mem_append.mp hd with hd | hd
    · exact (nbF_sp (by omega)).by d hd
    · exact h.1 d hd
  · exact (nbF_sp chk9.1).by d hd
theorem lnum_ok {m : MH} {n : Int} (h0 : 0 ≤ n) (h1 : n < 2097152) : WP (f_law_number [.int n] m) (fun x m' => ∃ k : Nat, x = .ref k ∧ m'[k]? = some (.lst ((nbF n).map .int)) ∧ m.length ≤ k ∧ Gr m m') NoE := by
  have e21 : (128 : Int) ^ 21 = 178405961588244985132285746181186892047843328 := by decide
  refine (lnumber_ok h0 (by omega)).mono ?_
  rintro _ m' ⟨k, ds, rfl, K, hN, _, hk, G⟩
  rw [hN.uniq (nbF_sp h0)] at K
  exact ⟨k, rfl, K, hk, G⟩
theorem nbytes_ok {m : MH} {n : Int} (h0 : 0 ≤ n) (h1 : n < 2097152) : WP (f_number_bytes [.int n] m) (fun x m' => ∃ k : Nat, x = .ref k ∧ m'[k]? = some (.lst ((nbF n).map .int)) ∧ m.length ≤ k ∧ Gr m m') NoE := by
  have e21 : (128 : Int) ^ 21 = 178405961588244985132285746181186892047843328 := by decide
  refine (numbytes_ok h0 (by omega)).mono ?_
  rintro _ m' ⟨k, ds, rfl, K, hN, _, hk, G⟩
  rw [hN.uniq (nbF_sp h0)] at K
  exact ⟨k, rfl, K, hk, G⟩
theorem recF_map {b : List Int} : (nbF (b.length : Nat)).map PV.int ++ b.map .int ++ (nbF (chk 9 b)).map .int = (recF b).map .int := by unfold recF; simp
theorem lrecord_ok {m : MH} {d : Nat} {b : List Int} (h : m[d]? = some (MO.lst (b.map PV.int))) (hb : Byt b) : WP (f_law_record [.ref d] m) (fun x m' => ∃ k : Nat, x = .ref k ∧ m'[k]? = some (.lst ((recF b).map .int)) ∧ m.length ≤ k ∧ Gr m m') NoE := by
  have hl := recF_len hb
  have hl2 : (nbF (b.length : Nat)).length + b.length + (nbF (chk 9 b)).length = (recF b).length := by unfold recF; simp; omega
  unfold f_law_record b_law_record
  try simp -dsimp only [at0, at1, at2, at3, at4, at5, at6, wp_fn, s_nil, s_brk, s_cnt, s_expr, s_ret, s_retN, s_if, s_asn, s_par, s_asg, g_nm, g_nil, g_cons, g_tupT, g_subW, w_v0, w_vS, w_c, w_op, w_un, w_anil, w_acons, w_tup, w_lst, w_call, w_callU, w_isi, w_meth, w_tru, w_bool, w_notS, w_andS, w_orS, w_ifx, w_andV, w_orV, w_notV, w_chain, wp_ok, wp_bad, wp_some, wp_none, wp_liftif, wp_if, asB_b, wp_noex, add_ii, sub_ii, mul_ii, fdiv_ii, mod_ii, pow_ii, neg_i, cmp_ii, lt_ii, le_ii, gt_ii, ge_ii, le_cc, muls_ii, muls_si, ins_cs, iadd_ii, isub_ii, w_onone, w_osome, w_sl, sl_s, sl_t, s_aug, eq_ss, len_s, ix_s, add_ss, str_s, tuple_t, list_t, is_n, not_n, non_n, non_i, non_b, non_s, non_t, non_r, abs_i, max_ii, min_ii, int_i, int_b, gcd_ii, len_t, ix_t, eq_v, ne_v, eq_ii, eq_bb, eq_nn, eq_in, eq_ni, iv_n_list, iv_n_tuple, iv_n_bool, iv_n_str, iv_n_int, okt_n, iv_b_list, iv_b_tuple, iv_b_bool, iv_b_str, iv_b_int, okt_b, iv_i_list, iv_i_tuple, iv_i_bool, iv_i_str, iv_i_int, okt_i, iv_s_list, iv_s_tuple, iv_s_bool, iv_s_str, iv_s_int, okt_s, iv_t_list, iv_t_tuple, iv_t_bool, iv_t_str, iv_t_int, okt_t, iv_r_list, iv_r_tuple, iv_r_bool, iv_r_str, iv_r_int, tru_b, tru_i, tru_n, tru_t, Option.map_some, Option.map_none, List.map_cons, List.map_nil, List.length_cons, List.length_nil, List.set_cons_zero, List.set_cons_succ, List.cons_append, List.nil_append, List.replicate, Nat.reduceAdd, Nat.reduceSub, Nat.reduceLeDiff, true_and, and_true, decide_eq_true_eq, reduceIte, Bool.false_eq_true, Bool.not_true, Bool.not_false, decide_true, decide_false]
  rw [len_r (seq_of_lst h), List.length_map]
  try simp -dsimp only [at0, at1, at2, at3, at4, at5, at6, wp_fn, s_nil, s_brk, s_cnt, s_expr, s_ret, s_retN, s_if, s_asn, s_par, s_asg, g_nm, g_nil, g_cons, g_tupT, g_subW, w_v0, w_vS, w_c, w_op, w_un, w_anil, w_acons, w_tup, w_lst, w_call, w_callU, w_isi, w_meth, w_tru, w_bool, w_notS, w_andS, w_orS, w_ifx, w_andV, w_orV, w_notV, w_chain, wp_ok, wp_bad, wp_some, wp_none, wp_liftif, wp_if, asB_b, wp_noex, add_ii, sub_ii, mul_ii, fdiv_ii, mod_ii, pow_ii, neg_i, cmp_ii, lt_ii, le_ii, gt_ii, ge_ii, le_cc, muls_ii, muls_si, ins_cs, iadd_ii, isub_ii, w_onone, w_osome, w_sl, sl_s, sl_t, s_aug, eq_ss, len_s, ix_s, add_ss, str_s, tuple_t, list_t, is_n, not_n, non_n, non_i, non_b, non_s, non_t, non_r, abs_i, max_ii, min_ii, int_i, int_b, gcd_ii, len_t, ix_t, eq_v, ne_v, eq_ii, eq_bb, eq_nn, eq_in, eq_ni, iv_n_list, iv_n_tuple, iv_n_bool, iv_n_str, iv_n_int, okt_n, iv_b_list, iv_b_tuple, iv_b_bool, iv_b_str, iv_b_int, okt_b, iv_i_list, iv_i_tuple, iv_i_bool, iv_i_str, iv_i_int, okt_i, iv_s_list, iv_s_tuple, iv_s_bool, iv_s_str, iv_s_int, okt_s, iv_t_list, iv_t_tuple, iv_t_bool, iv_t_str, iv_t_int, okt_t, iv_r_list, iv_r_tuple, iv_r_bool, iv_r_str, iv_r_int, tru_b, tru_i, tru_n, tru_t, Option.map_some, Option.map_none, List.map_cons, List.map_nil, List.length_cons, List.length_nil, List.set_cons_zero, List.set_cons_succ, List.cons_append, List.nil_append, List.replicate, Nat.reduceAdd, Nat.reduceSub, Nat.reduceLeDiff, true_and, and_true, decide_eq_true_eq, reduceIte, Bool.false_eq_true, Bool.not_true, Bool.not_false, decide_true, decide_false]
  refine (lnum_ok (by omega) (by have := hb.2; omega)).mono ?_
  rintro _ m1 ⟨k, rfl, K, hk, G1⟩
  have h1 := G1.get _ _ h
  try simp -dsimp only [at0, at1, at2, at3, at4, at5, at6, wp_fn, s_nil, s_brk, s_cnt, s_expr, s_ret, s_retN, s_if, s_asn, s_par, s_asg, g_nm, g_nil, g_cons, g_tupT, g_subW, w_v0, w_vS, w_c, w_op, w_un, w_anil, w_acons, w_tup, w_lst, w_call, w_callU, w_isi, w_meth, w_tru, w_bool, w_notS, w_andS, w_orS, w_ifx, w_andV, w_orV, w_notV, w_chain, wp_ok, wp_bad, wp_some, wp_none, wp_liftif, wp_if, asB_b, wp_noex, add_ii, sub_ii, mul_ii, fdiv_ii, mod_ii, pow_ii, neg_i, cmp_ii, lt_ii, le_ii, gt_ii, ge_ii, le_cc, muls_ii, muls_si, ins_cs, iadd_ii, isub_ii, w_onone, w_osome, w_sl, sl_s, sl_t, s_aug, eq_ss, len_s, ix_s, add_ss, str_s, tuple_t, list_t, is_n, not_n, non_n, non_i, non_b, non_s, non_t, non_r, abs_i, max_ii, min_ii, int_i, int_b, gcd_ii, len_t, ix_t, eq_v, ne_v, eq_ii, eq_bb, eq_nn, eq_in, eq_ni, iv_n_list, iv_n_tuple, iv_n_bool, iv_n_str, iv_n_int, okt_n, iv_b_list, iv_b_tuple, iv_b_bool, iv_b_str, iv_b_int, okt_b, iv_i_list, iv_i_tuple, iv_i_bool, iv_i_str, iv_i_int, okt_i, iv_s_list, iv_s_tuple, iv_s_bool, iv_s_str, iv_s_int, okt_s, iv_t_list, iv_t_tuple, iv_t_bool, iv_t_str, iv_t_int, okt_t, iv_r_list, iv_r_tuple, iv_r_bool, iv_r_str, iv_r_int, tru_b, tru_i, tru_n, tru_t, Option.map_some, Option.map_none, List.map_cons, List.map_nil, List.length_cons, List.length_nil, List.set_cons_zero, List.set_cons_succ, List.cons_append, List.nil_append, List.replicate, Nat.reduceAdd, Nat.reduceSub, Nat.reduceLeDiff, true_and, and_true, decide_eq_true_eq, reduceIte, Bool.false_eq_true, Bool.not_true, Bool.not_false, decide_true, decide_false]
  rw [add_rr (lst_of K) (lst_of h1), if_pos (by rw [List.length_map, List.length_map]; omega)]
  try simp -dsimp only [at0, at1, at2, at3, at4, at5, at6, wp_fn, s_nil, s_brk, s_cnt, s_expr, s_ret, s_retN, s_if, s_asn, s_par, s_asg, g_nm, g_nil, g_cons, g_tupT, g_subW, w_v0, w_vS, w_c, w_op, w_un, w_anil, w_acons, w_tup, w_lst, w_call, w_callU, w_isi, w_meth, w_tru, w_bool, w_notS, w_andS, w_orS, w_ifx, w_andV, w_orV, w_notV, w_chain, wp_ok, wp_bad, wp_some, wp_none, wp_liftif, wp_if, asB_b, wp_noex, add_ii, sub_ii, mul_ii, fdiv_ii, mod_ii, pow_ii, neg_i, cmp_ii, lt_ii, le_ii, gt_ii, ge_ii, le_cc, muls_ii, muls_si, ins_cs, iadd_ii, isub_ii, w_onone, w_osome, w_sl, sl_s, sl_t, s_aug, eq_ss, len_s, ix_s, add_ss, str_s, tuple_t, list_t, is_n, not_n, non_n, non_i, non_b, non_s, non_t, non_r, abs_i, max_ii, min_ii, int_i, int_b, gcd_ii, len_t, ix_t, eq_v, ne_v, eq_ii, eq_bb, eq_nn, eq_in, eq_ni, iv_n_list, iv_n_tuple, iv_n_bool, iv_n_str, iv_n_int, okt_n, iv_b_list, iv_b_tuple, iv_b_bool, iv_b_str, iv_b_int, okt_b, iv_i_list, iv_i_tuple, iv_i_bool, iv_i_str, iv_i_int, okt_i, iv_s_list, iv_s_tuple, iv_s_bool, iv_s_str, iv_s_int, okt_s, iv_t_list, iv_t_tuple, iv_t_bool, iv_t_str, iv_t_int, okt_t, iv_r_list, iv_r_tuple, iv_r_bool, iv_r_str, iv_r_int, tru_b, tru_i, tru_n, tru_t, Option.map_some, Option.map_none, List.map_cons, List.map_nil, List.length_cons, List.length_nil, List.set_cons_zero, List.set_cons_succ, List.cons_append, List.nil_append, List.replicate, Nat.reduceAdd, Nat.reduceSub, Nat.reduceLeDiff, true_and, and_true, decide_eq_true_eq, reduceIte, Bool.false_eq_true, Bool.not_true, Bool.not_false, decide_true, decide_false]
  have A := get_new (m := m1) (o := MO.lst ((nbF (b.length : Nat)).map PV.int ++ b.map .int))
  have h2 := get_old (o := MO.lst ((nbF (b.length : Nat)).map PV.int ++ b.map .int)) h1
  have G2 := G1.push (MO.lst ((nbF (b.length : Nat)).map PV.int ++ b.map .int))
  have hn := G1.len
  generalize m1 ++ [MO.lst ((nbF (b.length : Nat)).map PV.int ++ b.map .int)] = m2 at *
  generalize m1.length = an at *
  refine (lcheck_ok h2).mono ?_
  rintro _ m2 ⟨rfl, rfl⟩
  try simp -dsimp only [at0, at1, at2, at3, at4, at5, at6, wp_fn, s_nil, s_brk, s_cnt, s_expr, s_ret, s_retN, s_if, s_asn, s_par, s_asg, g_nm, g_nil, g_cons, g_tupT, g_subW, w_v0, w_vS, w_c, w_op, w_un, w_anil, w_acons, w_tup, w_lst, w_call, w_callU, w_isi, w_meth, w_tru, w_bool, w_notS, w_andS, w_orS, w_ifx, w_andV, w_orV, w_notV, w_chain, wp_ok, wp_bad, wp_some, wp_none, wp_liftif, wp_if, asB_b, wp_noex, add_ii, sub_ii, mul_ii, fdiv_ii, mod_ii, pow_ii, neg_i, cmp_ii, lt_ii, le_ii, gt_ii, ge_ii, le_cc, muls_ii, muls_si, ins_cs, iadd_ii, isub_ii, w_onone, w_osome, w_sl, sl_s, sl_t, s_aug, eq_ss, len_s, ix_s, add_ss, str_s, tuple_t, list_t, is_n, not_n, non_n, non_i, non_b, non_s, non_t, non_r, abs_i, max_ii, min_ii, int_i, int_b, gcd_ii, len_t, ix_t, eq_v, ne_v, eq_ii, eq_bb, eq_nn, eq_in, eq_ni, iv_n_list, iv_n_tuple, iv_n_bool, iv_n_str, iv_n_int, okt_n, iv_b_list, iv_b_tuple, iv_b_bool, iv_b_str, iv_b_int, okt_b, iv_i_list, iv_i_tuple, iv_i_bool, iv_i_str, iv_i_int, okt_i, iv_s_list, iv_s_tuple, iv_s_bool, iv_s_str, iv_s_int, okt_s, iv_t_list, iv_t_tuple, iv_t_bool, iv_t_str, iv_t_int, okt_t, iv_r_list, iv_r_tuple, iv_r_bool, iv_r_str, iv_r_int, tru_b, tru_i, tru_n, tru_t, Option.map_some, Option.map_none, List.map_cons, List.map_nil, List.length_cons, List.length_nil, List.set_cons_zero, List.set_cons_succ, List.cons_append, List.nil_append, List.replicate, Nat.reduceAdd, Nat.reduceSub, Nat.reduceLeDiff, true_and, and_true, decide_eq_true_eq, reduceIte, Bool.false_eq_true, Bool.not_true, Bool.not_false, decide_true, decide_false]
  refine (lnum_ok chk9.1 (by have := (chk9 (b := b)).2; omega)).mono ?_
  rintro _ m3 ⟨k3, rfl, K3, hk3, G3⟩
  try simp -dsimp only [at0, at1, at2, at3, at4, at5, at6, wp_fn, s_nil, s_brk, s_cnt, s_expr, s_ret, s_retN, s_if, s_asn, s_par, s_asg, g_nm, g_nil, g_cons, g_tupT, g_subW, w_v0, w_vS, w_c, w_op, w_un, w_anil, w_acons, w_tup, w_lst, w_call, w_callU, w_isi, w_meth, w_tru, w_bool, w_notS, w_andS, w_orS, w_ifx, w_andV, w_orV, w_notV, w_chain, wp_ok, wp_bad, wp_some, wp_none, wp_liftif, wp_if, asB_b, wp_noex, add_ii, sub_ii, mul_ii, fdiv_ii, mod_ii, pow_ii, neg_i, cmp_ii, lt_ii, le_ii, gt_ii, ge_ii, le_cc, muls_ii, muls_si, ins_cs, iadd_ii, isub_ii, w_onone, w_osome, w_sl, sl_s, sl_t, s_aug, eq_ss, len_s, ix_s, add_ss, str_s, tuple_t, list_t, is_n, not_n, non_n, non_i, non_b, non_s, non_t, non_r, abs_i, max_ii, min_ii, int_i, int_b, gcd_ii, len_t, ix_t, eq_v, ne_v, eq_ii, eq_bb, eq_nn, eq_in, eq_ni, iv_n_list, iv_n_tuple, iv_n_bool, iv_n_str, iv_n_int, okt_n, iv_b_list, iv_b_tuple, iv_b_bool, iv_b_str, iv_b_int, okt_b, iv_i_list, iv_i_tuple, iv_i_bool, iv_i_str, iv_i_int, okt_i, iv_s_list, iv_s_tuple, iv_s_bool, iv_s_str, iv_s_int, okt_s, iv_t_list, iv_t_tuple, iv_t_bool, iv_t_str, iv_t_int, okt_t, iv_r_list, iv_r_tuple, iv_r_bool, iv_r_str, iv_r_int, tru_b, tru_i, tru_n, tru_t, Option.map_some, Option.map_none, List.map_cons, List.map_nil, List.length_cons, List.length_nil, List.set_cons_zero, List.set_cons_succ, List.cons_append, List.nil_append, List.replicate, Nat.reduceAdd, Nat.reduceSub, Nat.reduceLeDiff, true_and, and_true, decide_eq_true_eq, reduceIte, Bool.false_eq_true, Bool.not_true, Bool.not_false, decide_true, decide_false]
  rw [add_rr (lst_of (G3.get _ _ A)) (lst_of K3), if_pos (by rw [List.length_append, List.length_map, List.length_map, List.length_map]; omega)]
  try simp -dsimp only [at0, at1, at2, at3, at4, at5, at6, wp_fn, s_nil, s_brk, s_cnt, s_expr, s_ret, s_retN, s_if, s_asn, s_par, s_asg, g_nm, g_nil, g_cons, g_tupT, g_subW, w_v0, w_vS, w_c, w_op, w_un, w_anil, w_acons, w_tup, w_lst, w_call, w_callU, w_isi, w_meth, w_tru, w_bool, w_notS, w_andS, w_orS, w_ifx, w_andV, w_orV, w_notV, w_chain, wp_ok, wp_bad, wp_some, wp_none, wp_liftif, wp_if, asB_b, wp_noex, add_ii, sub_ii, mul_ii, fdiv_ii, mod_ii, pow_ii, neg_i, cmp_ii, lt_ii, le_ii, gt_ii, ge_ii, le_cc, muls_ii, muls_si, ins_cs, iadd_ii, isub_ii, w_onone, w_osome, w_sl, sl_s, sl_t, s_aug, eq_ss, len_s, ix_s, add_ss, str_s, tuple_t, list_t, is_n, not_n, non_n, non_i, non_b, non_s, non_t, non_r, abs_i, max_ii, min_ii, int_i, int_b, gcd_ii, len_t, ix_t, eq_v, ne_v, eq_ii, eq_bb, eq_nn, eq_in, eq_ni, iv_n_list, iv_n_tuple, iv_n_bool, iv_n_str, iv_n_int, okt_n, iv_b_list, iv_b_tuple, iv_b_bool, iv_b_str, iv_b_int, okt_b, iv_i_list, iv_i_tuple, iv_i_bool, iv_i_str, iv_i_int, okt_i, iv_s_list, iv_s_tuple, iv_s_bool, iv_s_str, iv_s_int, okt_s, iv_t_list, iv_t_tuple, iv_t_bool, iv_t_str, iv_t_int, okt_t, iv_r_list, iv_r_tuple, iv_r_bool, iv_r_str, iv_r_int, tru_b, tru_i, tru_n, tru_t, Option.map_some, Option.map_none, List.map_cons, List.map_nil, List.length_cons, List.length_nil, List.set_cons_zero, List.set_cons_succ, List.cons_append, List.nil_append, List.replicate, Nat.reduceAdd, Nat.reduceSub, Nat.reduceLeDiff, true_and, and_true, decide_eq_true_eq, reduceIte, Bool.false_eq_true, Bool.not_true, Bool.not_false, decide_true, decide_false]
  rw [recF_map]
  exact ⟨_, rfl, get_new, by have := (G2.trans G3).len; omega, (G2.trans G3).push _⟩
theorem recordof_ok {m : MH} {d : Nat} {b : List Int} (h : m[d]? = some (MO.lst (b.map PV.int))) (hb : Byt b) : WP (f_record_of [.ref d] m) (fun x m' => ∃ k : Nat, x = .ref k ∧ m'[k]? = some (.lst ((recF b).map .int)) ∧ m.length ≤ k ∧ Gr m m') NoE := by
  have hl := recF_len hb
  have hl2 : (nbF (b.length : Nat)).length + b.length + (nbF (chk 9 b)).length = (recF b).length := by unfold recF; simp; omega
  unfold f_record_of b_record_of
  try simp -dsimp only [at0, at1, at2, at3, at4, at5, at6, wp_fn, s_nil, s_brk, s_cnt, s_expr, s_ret, s_retN, s_if, s_asn, s_par, s_asg, g_nm, g_nil, g_cons, g_tupT, g_subW, w_v0, w_vS, w_c, w_op, w_un, w_anil, w_acons, w_tup, w_lst, w_call, w_callU, w_isi, w_meth, w_tru, w_bool, w_notS, w_andS, w_orS, w_ifx, w_andV, w_orV, w_notV, w_chain, wp_ok, wp_bad, wp_some, wp_none, wp_liftif, wp_if, asB_b, wp_noex, add_ii, sub_ii, mul_ii, fdiv_ii, mod_ii, pow_ii, neg_i, cmp_ii, lt_ii, le_ii, gt_ii, ge_ii, le_cc, muls_ii, muls_si, ins_cs, iadd_ii, isub_ii, w_onone, w_osome, w_sl, sl_s, sl_t, s_aug, eq_ss, len_s, ix_s, add_ss, str_s, tuple_t, list_t, is_n, not_n, non_n, non_i, non_b, non_s, non_t, non_r, abs_i, max_ii, min_ii, int_i, int_b, gcd_ii, len_t, ix_t, eq_v, ne_v, eq_ii, eq_bb, eq_nn, eq_in, eq_ni, iv_n_list, iv_n_tuple, iv_n_bool, iv_n_str, iv_n_int, okt_n, iv_b_list, iv_b_tuple, iv_b_bool, iv_b_str, iv_b_int, okt_b, iv_i_list, iv_i_tuple, iv_i_bool, iv_i_str, iv_i_int, okt_i, iv_s_list, iv_s_tuple, iv_s_bool, iv_s_str, iv_s_int, okt_s, iv_t_list, iv_t_tuple, iv_t_bool, iv_t_str, iv_t_int, okt_t, iv_r_list, iv_r_tuple, iv_r_bool, iv_r_str, iv_r_int, tru_b, tru_i, tru_n, tru_t, Option.map_some, Option.map_none, List.map_cons, List.map_nil, List.length_cons, List.length_nil, List.set_cons_zero, List.set_cons_succ, List.cons_append, List.nil_append, List.replicate, Nat.reduceAdd, Nat.reduceSub, Nat.reduceLeDiff, true_and, and_true, decide_eq_true_eq, reduceIte, Bool.false_eq_true, Bool.not_true, Bool.not_false, decide_true, decide_false]
  rw [len_r (seq_of_lst h), List.length_map]
  try simp -dsimp only [at0, at1, at2, at3, at4, at5, at6, wp_fn, s_nil, s_brk, s_cnt, s_expr, s_ret, s_retN, s_if, s_asn, s_par, s_asg, g_nm, g_nil, g_cons, g_tupT, g_subW, w_v0, w_vS, w_c, w_op, w_un, w_anil, w_acons, w_tup, w_lst, w_call, w_callU, w_isi, w_meth, w_tru, w_bool, w_notS, w_andS, w_orS, w_ifx, w_andV, w_orV, w_notV, w_chain, wp_ok, wp_bad, wp_some, wp_none, wp_liftif, wp_if, asB_b, wp_noex, add_ii, sub_ii, mul_ii, fdiv_ii, mod_ii, pow_ii, neg_i, cmp_ii, lt_ii, le_ii, gt_ii, ge_ii, le_cc, muls_ii, muls_si, ins_cs, iadd_ii, isub_ii, w_onone, w_osome, w_sl, sl_s, sl_t, s_aug, eq_ss, len_s, ix_s, add_ss, str_s, tuple_t, list_t, is_n, not_n, non_n, non_i, non_b, non_s, non_t, non_r, abs_i, max_ii, min_ii, int_i, int_b, gcd_ii, len_t, ix_t, eq_v, ne_v, eq_ii, eq_bb, eq_nn, eq_in, eq_ni, iv_n_list, iv_n_tuple, iv_n_bool, iv_n_str, iv_n_int, okt_n, iv_b_list, iv_b_tuple, iv_b_bool, iv_b_str, iv_b_int, okt_b, iv_i_list, iv_i_tuple, iv_i_bool, iv_i_str, iv_i_int, okt_i, iv_s_list, iv_s_tuple, iv_s_bool, iv_s_str, iv_s_int, okt_s, iv_t_list, iv_t_tuple, iv_t_bool, iv_t_str, iv_t_int, okt_t, iv_r_list, iv_r_tuple, iv_r_bool, iv_r_str, iv_r_int, tru_b, tru_i, tru_n, tru_t, Option.map_some, Option.map_none, List.map_cons, List.map_nil, List.length_cons, List.length_nil, List.set_cons_zero, List.set_cons_succ, List.cons_append, List.nil_append, List.replicate, Nat.reduceAdd, Nat.reduceSub, Nat.reduceLeDiff, true_and, and_true, decide_eq_true_eq, reduceIte, Bool.false_eq_true, Bool.not_true, Bool.not_false, decide_true, decide_false]
  refine (nbytes_ok (by omega) (by have := hb.2; omega)).mono ?_
  rintro _ m1 ⟨k, rfl, K, hk, G1⟩
  have h1 := G1.get _ _ h
  try simp -dsimp only [list_r (seq_of_lst h1), at0, at1, at2, at3, at4, at5, at6, wp_fn, s_nil, s_brk, s_cnt, s_expr, s_ret, s_retN, s_if, s_asn, s_par, s_asg, g_nm, g_nil, g_cons, g_tupT, g_subW, w_v0, w_vS, w_c, w_op, w_un, w_anil, w_acons, w_tup, w_lst, w_call, w_callU, w_isi, w_meth, w_tru, w_bool, w_notS, w_andS, w_orS, w_ifx, w_andV, w_orV, w_notV, w_chain, wp_ok, wp_bad, wp_some, wp_none, wp_liftif, wp_if, asB_b, wp_noex, add_ii, sub_ii, mul_ii, fdiv_ii, mod_ii, pow_ii, neg_i, cmp_ii, lt_ii, le_ii, gt_ii, ge_ii, le_cc, muls_ii, muls_si, ins_cs, iadd_ii, isub_ii, w_onone, w_osome, w_sl, sl_s, sl_t, s_aug, eq_ss, len_s, ix_s, add_ss, str_s, tuple_t, list_t, is_n, not_n, non_n, non_i, non_b, non_s, non_t, non_r, abs_i, max_ii, min_ii, int_i, int_b, gcd_ii, len_t, ix_t, eq_v, ne_v, eq_ii, eq_bb, eq_nn, eq_in, eq_ni, iv_n_list, iv_n_tuple, iv_n_bool, iv_n_str, iv_n_int, okt_n, iv_b_list, iv_b_tuple, iv_b_bool, iv_b_str, iv_b_int, okt_b, iv_i_list, iv_i_tuple, iv_i_bool, iv_i_str, iv_i_int, okt_i, iv_s_list, iv_s_tuple, iv_s_bool, iv_s_str, iv_s_int, okt_s, iv_t_list, iv_t_tuple, iv_t_bool, iv_t_str, iv_t_int, okt_t, iv_r_list, iv_r_tuple, iv_r_bool, iv_r_str, iv_r_int, tru_b, tru_i, tru_n, tru_t, Option.map_some, Option.map_none, List.map_cons, List.map_nil, List.length_cons, List.length_nil, List.set_cons_zero, List.set_cons_succ, List.cons_append, List.nil_append, List.replicate, Nat.reduceAdd, Nat.reduceSub, Nat.reduceLeDiff, true_and, and_true, decide_eq_true_eq, reduceIte, Bool.false_eq_true, Bool.not_true, Bool.not_false, decide_true, decide_false]
  rw [add_rr (lst_of (get_old K)) (lst_of get_new), if_pos (by rw [List.length_map, List.length_map]; omega)]
  try simp -dsimp only [at0, at1, at2, at3, at4, at5, at6, wp_fn, s_nil, s_brk, s_cnt, s_expr, s_ret, s_retN, s_if, s_asn, s_par, s_asg, g_nm, g_nil, g_cons, g_tupT, g_subW, w_v0, w_vS, w_c, w_op, w_un, w_anil, w_acons, w_tup, w_lst, w_call, w_callU, w_isi, w_meth, w_tru, w_bool, w_notS, w_andS, w_orS, w_ifx, w_andV, w_orV, w_notV, w_chain, wp_ok, wp_bad, wp_some, wp_none, wp_liftif, wp_if, asB_b, wp_noex, add_ii, sub_ii, mul_ii, fdiv_ii, mod_ii, pow_ii, neg_i, cmp_ii, lt_ii, le_ii, gt_ii, ge_ii, le_cc, muls_ii, muls_si, ins_cs, iadd_ii, isub_ii, w_onone, w_osome, w_sl, sl_s, sl_t, s_aug, eq_ss, len_s, ix_s, add_ss, str_s, tuple_t, list_t, is_n, not_n, non_n, non_i, non_b, non_s, non_t, non_r, abs_i, max_ii, min_ii, int_i, int_b, gcd_ii, len_t, ix_t, eq_v, ne_v, eq_ii, eq_bb, eq_nn, eq_in, eq_ni, iv_n_list, iv_n_tuple, iv_n_bool, iv_n_str, iv_n_int, okt_n, iv_b_list, iv_b_tuple, iv_b_bool, iv_b_str, iv_b_int, okt_b, iv_i_list, iv_i_tuple, iv_i_bool, iv_i_str, iv_i_int, okt_i, iv_s_list, iv_s_tuple, iv_s_bool, iv_s_str, iv_s_int, okt_s, iv_t_list, iv_t_tuple, iv_t_bool, iv_t_str, iv_t_int, okt_t, iv_r_list, iv_r_tuple, iv_r_bool, iv_r_str, iv_r_int, tru_b, tru_i, tru_n, tru_t, Option.map_some, Option.map_none, List.map_cons, List.map_nil, List.length_cons, List.length_nil, List.set_cons_zero, List.set_cons_succ, List.cons_append, List.nil_append, List.replicate, Nat.reduceAdd, Nat.reduceSub, Nat.reduceLeDiff, true_and, and_true, decide_eq_true_eq, reduceIte, Bool.false_eq_true, Bool.not_true, Bool.not_false, decide_true, decide_false]
  have A := get_new (m := m1 ++ [MO.lst (b.map PV.int)]) (o := MO.lst ((nbF (b.length : Nat)).map PV.int ++ b.map .int))
  have h2 := get_old (o := MO.lst ((nbF (b.length : Nat)).map PV.int ++ b.map .int)) (get_old (o := MO.lst (b.map .int)) h1)
  have G2 := (G1.push (MO.lst (b.map PV.int))).push (MO.lst ((nbF (b.length : Nat)).map PV.int ++ b.map .int))
  have hn := (G1.push (MO.lst (b.map PV.int))).len
  generalize m1 ++ [MO.lst (b.map PV.int)] ++ [MO.lst ((nbF (b.length : Nat)).map PV.int ++ b.map .int)] = m2 at *
  generalize (m1 ++ [MO.lst (b.map PV.int)]).length = an at *
  refine (sumbody_ok h2).mono ?_
  rintro _ m2 ⟨rfl, rfl⟩
  try simp -dsimp only [at0, at1, at2, at3, at4, at5, at6, wp_fn, s_nil, s_brk, s_cnt, s_expr, s_ret, s_retN, s_if, s_asn, s_par, s_asg, g_nm, g_nil, g_cons, g_tupT, g_subW, w_v0, w_vS, w_c, w_op, w_un, w_anil, w_acons, w_tup, w_lst, w_call, w_callU, w_isi, w_meth, w_tru, w_bool, w_notS, w_andS, w_orS, w_ifx, w_andV, w_orV, w_notV, w_chain, wp_ok, wp_bad, wp_some, wp_none, wp_liftif, wp_if, asB_b, wp_noex, add_ii, sub_ii, mul_ii, fdiv_ii, mod_ii, pow_ii, neg_i, cmp_ii, lt_ii, le_ii, gt_ii, ge_ii, le_cc, muls_ii, muls_si, ins_cs, iadd_ii, isub_ii, w_onone, w_osome, w_sl, sl_s, sl_t, s_aug, eq_ss, len_s, ix_s, add_ss, str_s, tuple_t, list_t, is_n, not_n, non_n, non_i, non_b, non_s, non_t, non_r, abs_i, max_ii, min_ii, int_i, int_b, gcd_ii, len_t, ix_t, eq_v, ne_v, eq_ii, eq_bb, eq_nn, eq_in, eq_ni, iv_n_list, iv_n_tuple, iv_n_bool, iv_n_str, iv_n_int, okt_n, iv_b_list, iv_b_tuple, iv_b_bool, iv_b_str, iv_b_int, okt_b, iv_i_list, iv_i_tuple, iv_i_bool, iv_i_str, iv_i_int, okt_i, iv_s_list, iv_s_tuple, iv_s_bool, iv_s_str, iv_s_int, okt_s, iv_t_list, iv_t_tuple, iv_t_bool, iv_t_str, iv_t_int, okt_t, iv_r_list, iv_r_tuple, iv_r_bool, iv_r_str, iv_r_int, tru_b, tru_i, tru_n, tru_t, Option.map_some, Option.map_none, List.map_cons, List.map_nil, List.length_cons, List.length_nil, List.set_cons_zero, List.set_cons_succ, List.cons_append, List.nil_append, List.replicate, Nat.reduceAdd, Nat.reduceSub, Nat.reduceLeDiff, true_and, and_true, decide_eq_true_eq, reduceIte, Bool.false_eq_true, Bool.not_true, Bool.not_false, decide_true, decide_false]
  refine (nbytes_ok chk9.1 (by have := (chk9 (b := b)).2; omega)).mono ?_
  rintro _ m3 ⟨k3, rfl, K3, hk3, G3⟩
  try simp -dsimp only [at0, at1, at2, at3, at4, at5, at6, wp_fn, s_nil, s_brk, s_cnt, s_expr, s_ret, s_retN, s_if, s_asn, s_par, s_asg, g_nm, g_nil, g_cons, g_tupT, g_subW, w_v0, w_vS, w_c, w_op, w_un, w_anil, w_acons, w_tup, w_lst, w_call, w_callU, w_isi, w_meth, w_tru, w_bool, w_notS, w_andS, w_orS, w_ifx, w_andV, w_orV, w_notV, w_chain, wp_ok, wp_bad, wp_some, wp_none, wp_liftif, wp_if, asB_b, wp_noex, add_ii, sub_ii, mul_ii, fdiv_ii, mod_ii, pow_ii, neg_i, cmp_ii, lt_ii, le_ii, gt_ii, ge_ii, le_cc, muls_ii, muls_si, ins_cs, iadd_ii, isub_ii, w_onone, w_osome, w_sl, sl_s, sl_t, s_aug, eq_ss, len_s, ix_s, add_ss, str_s, tuple_t, list_t, is_n, not_n, non_n, non_i, non_b, non_s, non_t, non_r, abs_i, max_ii, min_ii, int_i, int_b, gcd_ii, len_t, ix_t, eq_v, ne_v, eq_ii, eq_bb, eq_nn, eq_in, eq_ni, iv_n_list, iv_n_tuple, iv_n_bool, iv_n_str, iv_n_int, okt_n, iv_b_list, iv_b_tuple, iv_b_bool, iv_b_str, iv_b_int, okt_b, iv_i_list, iv_i_tuple, iv_i_bool, iv_i_str, iv_i_int, okt_i, iv_s_list, iv_s_tuple, iv_s_bool, iv_s_str, iv_s_int, okt_s, iv_t_list, iv_t_tuple, iv_t_bool, iv_t_str, iv_t_int, okt_t, iv_r_list, iv_r_tuple, iv_r_bool, iv_r_str, iv_r_int, tru_b, tru_i, tru_n, tru_t, Option.map_some, Option.map_none, List.map_cons, List.map_nil, List.length_cons, List.length_nil, List.set_cons_zero, List.set_cons_succ, List.cons_append, List.nil_append, List.replicate, Nat.reduceAdd, Nat.reduceSub, Nat.reduceLeDiff, true_and, and_true, decide_eq_true_eq, reduceIte, Bool.false_eq_true, Bool.not_true, Bool.not_false, decide_true, decide_false]
  rw [add_rr (lst_of (G3.get _ _ A)) (lst_of K3), if_pos (by rw [List.length_append, List.length_map, List.length_map, List.length_map]; omega)]
  try simp -dsimp only [at0, at1, at2, at3, at4, at5, at6, wp_fn, s_nil, s_brk, s_cnt, s_expr, s_ret, s_retN, s_if, s_asn, s_par, s_asg, g_nm, g_nil, g_cons, g_tupT, g_subW, w_v0, w_vS, w_c, w_op, w_un, w_anil, w_acons, w_tup, w_lst, w_call, w_callU, w_isi, w_meth, w_tru, w_bool, w_notS, w_andS, w_orS, w_ifx, w_andV, w_orV, w_notV, w_chain, wp_ok, wp_bad, wp_some, wp_none, wp_liftif, wp_if, asB_b, wp_noex, add_ii, sub_ii, mul_ii, fdiv_ii, mod_ii, pow_ii, neg_i, cmp_ii, lt_ii, le_ii, gt_ii, ge_ii, le_cc, muls_ii, muls_si, ins_cs, iadd_ii, isub_ii, w_onone, w_osome, w_sl, sl_s, sl_t, s_aug, eq_ss, len_s, ix_s, add_ss, str_s, tuple_t, list_t, is_n, not_n, non_n, non_i, non_b, non_s, non_t, non_r, abs_i, max_ii, min_ii, int_i, int_b, gcd_ii, len_t, ix_t, eq_v, ne_v, eq_ii, eq_bb, eq_nn, eq_in, eq_ni, iv_n_list, iv_n_tuple, iv_n_bool, iv_n_str, iv_n_int, okt_n, iv_b_list, iv_b_tuple, iv_b_bool, iv_b_str, iv_b_int, okt_b, iv_i_list, iv_i_tuple, iv_i_bool, iv_i_str, iv_i_int, okt_i, iv_s_list, iv_s_tuple, iv_s_bool, iv_s_str, iv_s_int, okt_s, iv_t_list, iv_t_tuple, iv_t_bool, iv_t_str, iv_t_int, okt_t, iv_r_list, iv_r_tuple, iv_r_bool, iv_r_str, iv_r_int, tru_b, tru_i, tru_n, tru_t, Option.map_some, Option.map_none, List.map_cons, List.map_nil, List.length_cons, List.length_nil, List.set_cons_zero, List.set_cons_succ, List.cons_append, List.nil_append, List.replicate, Nat.reduceAdd, Nat.reduceSub, Nat.reduceLeDiff, true_and, and_true, decide_eq_true_eq, reduceIte, Bool.false_eq_true, Bool.not_true, Bool.not_false, decide_true, decide_false]
  rw [recF_map]
  exact ⟨_, rfl, get_new, by have := (G2.trans G3).len; omega, (G2.trans G3).push _⟩
/-! ### what read_record tells -/
def rr (ds : List Int) (a : Nat) : Option (List Int × Nat) :=
  (rdL true 0 1 (ds.drop a)).bind fun p => (rdL true 0 1 (ds.drop (a + p.2 + p.1.toNat))).bind fun q =>
    if q.1 = chk 9 ((ds.drop (a + p.2)).take p.1.toNat) then some ((ds.drop (a + p.2)).take p.1.toNat, a + p.2 + p.1.toNat + q.2) else none
theorem cut_mid {xs : List PV} {i j : Nat} : cut xs (some ((i : Nat) : Int)) (some ((j : Nat) : Int)) = (xs.drop i).take (j - i) := by
  unfold cut
  rw [HT.sIx_nat, HT.sIx_nat]
  by_cases h : i ≤ xs.length
  · rw [Nat.min_eq_left h, List.take_eq_take_iff, List.length_drop]
    omega
  · rw [Nat.min_eq_right (show xs.length ≤ i by omega), List.drop_length, List.drop_of_length_le (by omega)]
    simp
theorem readrec_ok {m : MH} {d : Nat} {ds : List Int} {a : Nat} (h : m[d]? = some (.lst (ds.map .int))) (hb : ∀ x ∈ ds, 0 ≤ x ∧ x < 256) (hl : ds.length ≤ 10000) (ha : a ≤ 10000) (hn : ∀ p, rdL true 0 1 (ds.drop a) = some p → 0 ≤ p.1 ∧ p.1 ≤ 1000 ∧ p.2 ≤ 1000) :
    WP (f_read_record [.ref d, .int (a : Nat)] m) (fun x m' => (rr ds a = none → x = .non) ∧ (∀ b e, rr ds a = some (b, e) → ∃ k : Nat, x = .tup [.ref k, .int (e : Nat)] ∧ m'[k]? = some (MO.lst (b.map PV.int))) ∧ Gr m m') NoE := by
  generalize hR : rr ds a = R
  unfold f_read_record b_read_record
  try simp -dsimp only [at0, at1, at2, at3, at4, at5, at6, wp_fn, s_nil, s_brk, s_cnt, s_expr, s_ret, s_retN, s_if, s_asn, s_par, s_asg, g_nm, g_nil, g_cons, g_tupT, g_subW, w_v0, w_vS, w_c, w_op, w_un, w_anil, w_acons, w_tup, w_lst, w_call, w_callU, w_isi, w_meth, w_tru, w_bool, w_notS, w_andS, w_orS, w_ifx, w_andV, w_orV, w_notV, w_chain, wp_ok, wp_bad, wp_some, wp_none, wp_liftif, wp_if, asB_b, wp_noex, add_ii, sub_ii, mul_ii, fdiv_ii, mod_ii, pow_ii, neg_i, cmp_ii, lt_ii, le_ii, gt_ii, ge_ii, le_cc, muls_ii, muls_si, ins_cs, iadd_ii, isub_ii, w_onone, w_osome, w_sl, sl_s, sl_t, s_aug, eq_ss, len_s, ix_s, add_ss, str_s, tuple_t, list_t, is_n, not_n, non_n, non_i, non_b, non_s, non_t, non_r, abs_i, max_ii, min_ii, int_i, int_b, gcd_ii, len_t, ix_t, eq_v, ne_v, eq_ii, eq_bb, eq_nn, eq_in, eq_ni, iv_n_list, iv_n_tuple, iv_n_bool, iv_n_str, iv_n_int, okt_n, iv_b_list, iv_b_tuple, iv_b_bool, iv_b_str, iv_b_int, okt_b, iv_i_list, iv_i_tuple, iv_i_bool, iv_i_str, iv_i_int, okt_i, iv_s_list, iv_s_tuple, iv_s_bool, iv_s_str, iv_s_int, okt_s, iv_t_list, iv_t_tuple, iv_t_bool, iv_t_str, iv_t_int, okt_t, iv_r_list, iv_r_tuple, iv_r_bool, iv_r_str, iv_r_int, tru_b, tru_i, tru_n, tru_t, Option.map_some, Option.map_none, List.map_cons, List.map_nil, List.length_cons, List.length_nil, List.set_cons_zero, List.set_cons_succ, List.cons_append, List.nil_append, List.replicate, Nat.reduceAdd, Nat.reduceSub, Nat.reduceLeDiff, true_and, and_true, decide_eq_true_eq, reduceIte, Bool.false_eq_true, Bool.not_true, Bool.not_false, decide_true, decide_false]
  rw [s_seq]
  try simp -dsimp only [at0, at1, at2, at3, at4, at5, at6, wp_fn, s_nil, s_brk, s_cnt, s_expr, s_ret, s_retN, s_if, s_asn, s_par, s_asg, g_nm, g_nil, g_cons, g_tupT, g_subW, w_v0, w_vS, w_c, w_op, w_un, w_anil, w_acons, w_tup, w_lst, w_call, w_callU, w_isi, w_meth, w_tru, w_bool, w_notS, w_andS, w_orS, w_ifx, w_andV, w_orV, w_notV, w_chain, wp_ok, wp_bad, wp_some, wp_none, wp_liftif, wp_if, asB_b, wp_noex, add_ii, sub_ii, mul_ii, fdiv_ii, mod_ii, pow_ii, neg_i, cmp_ii, lt_ii, le_ii, gt_ii, ge_ii, le_cc, muls_ii, muls_si, ins_cs, iadd_ii, isub_ii, w_onone, w_osome, w_sl, sl_s, sl_t, s_aug, eq_ss, len_s, ix_s, add_ss, str_s, tuple_t, list_t, is_n, not_n, non_n, non_i, non_b, non_s, non_t, non_r, abs_i, max_ii, min_ii, int_i, int_b, gcd_ii, len_t, ix_t, eq_v, ne_v, eq_ii, eq_bb, eq_nn, eq_in, eq_ni, iv_n_list, iv_n_tuple, iv_n_bool, iv_n_str, iv_n_int, okt_n, iv_b_list, iv_b_tuple, iv_b_bool, iv_b_str, iv_b_int, okt_b, iv_i_list, iv_i_tuple, iv_i_bool, iv_i_str, iv_i_int, okt_i, iv_s_list, iv_s_tuple, iv_s_bool, iv_s_str, iv_s_int, okt_s, iv_t_list, iv_t_tuple, iv_t_bool, iv_t_str, iv_t_int, okt_t, iv_r_list, iv_r_tuple, iv_r_bool, iv_r_str, iv_r_int, tru_b, tru_i, tru_n, tru_t, Option.map_some, Option.map_none, List.map_cons, List.map_nil, List.length_cons, List.length_nil, List.set_cons_zero, List.set_cons_succ, List.cons_append, List.nil_append, List.replicate, Nat.reduceAdd, Nat.reduceSub, Nat.reduceLeDiff, true_and, and_true, decide_eq_true_eq, reduceIte, Bool.false_eq_true, Bool.not_true, Bool.not_false, decide_true, decide_false]
  refine (readnum_ok h hb hl (by omega)).mono ?_
  rintro _ m ⟨rfl, rfl⟩
  try simp -dsimp only [at0, at1, at2, at3, at4, at5, at6, wp_fn, s_nil, s_brk, s_cnt, s_expr, s_ret, s_retN, s_if, s_asn, s_par, s_asg, g_nm, g_nil, g_cons, g_tupT, g_subW, w_v0, w_vS, w_c, w_op, w_un, w_anil, w_acons, w_tup, w_lst, w_call, w_callU, w_isi, w_meth, w_tru, w_bool, w_notS, w_andS, w_orS, w_ifx, w_andV, w_orV, w_notV, w_chain, wp_ok, wp_bad, wp_some, wp_none, wp_liftif, wp_if, asB_b, wp_noex, add_ii, sub_ii, mul_ii, fdiv_ii, mod_ii, pow_ii, neg_i, cmp_ii, lt_ii, le_ii, gt_ii, ge_ii, le_cc, muls_ii, muls_si, ins_cs, iadd_ii, isub_ii, w_onone, w_osome, w_sl, sl_s, sl_t, s_aug, eq_ss, len_s, ix_s, add_ss, str_s, tuple_t, list_t, is_n, not_n, non_n, non_i, non_b, non_s, non_t, non_r, abs_i, max_ii, min_ii, int_i, int_b, gcd_ii, len_t, ix_t, eq_v, ne_v, eq_ii, eq_bb, eq_nn, eq_in, eq_ni, iv_n_list, iv_n_tuple, iv_n_bool, iv_n_str, iv_n_int, okt_n, iv_b_list, iv_b_tuple, iv_b_bool, iv_b_str, iv_b_int, okt_b, iv_i_list, iv_i_tuple, iv_i_bool, iv_i_str, iv_i_int, okt_i, iv_s_list, iv_s_tuple, iv_s_bool, iv_s_str, iv_s_int, okt_s, iv_t_list, iv_t_tuple, iv_t_bool, iv_t_str, iv_t_int, okt_t, iv_r_list, iv_r_tuple, iv_r_bool, iv_r_str, iv_r_int, tru_b, tru_i, tru_n, tru_t, Option.map_some, Option.map_none, List.map_cons, List.map_nil, List.length_cons, List.length_nil, List.set_cons_zero, List.set_cons_succ, List.cons_append, List.nil_append, List.replicate, Nat.reduceAdd, Nat.reduceSub, Nat.reduceLeDiff, true_and, and_true, decide_eq_true_eq, reduceIte, Bool.false_eq_true, Bool.not_true, Bool.not_false, decide_true, decide_false]
  rw [s_seq]
  unfold rr at hR
  cases e1 : rdL true 0 1 (ds.drop a) with
  | none =>
    rw [e1] at hR
    cases hR
    unfold rdV
    try simp -dsimp only [at0, at1, at2, at3, at4, at5, at6, wp_fn, s_nil, s_brk, s_cnt, s_expr, s_ret, s_retN, s_if, s_asn, s_par, s_asg, g_nm, g_nil, g_cons, g_tupT, g_subW, w_v0, w_vS, w_c, w_op, w_un, w_anil, w_acons, w_tup, w_lst, w_call, w_callU, w_isi, w_meth, w_tru, w_bool, w_notS, w_andS, w_orS, w_ifx, w_andV, w_orV, w_notV, w_chain, wp_ok, wp_bad, wp_some, wp_none, wp_liftif, wp_if, asB_b, wp_noex, add_ii, sub_ii, mul_ii, fdiv_ii, mod_ii, pow_ii, neg_i, cmp_ii, lt_ii, le_ii, gt_ii, ge_ii, le_cc, muls_ii, muls_si, ins_cs, iadd_ii, isub_ii, w_onone, w_osome, w_sl, sl_s, sl_t, s_aug, eq_ss, len_s, ix_s, add_ss, str_s, tuple_t, list_t, is_n, not_n, non_n, non_i, non_b, non_s, non_t, non_r, abs_i, max_ii, min_ii, int_i, int_b, gcd_ii, len_t, ix_t, eq_v, ne_v, eq_ii, eq_bb, eq_nn, eq_in, eq_ni, iv_n_list, iv_n_tuple, iv_n_bool, iv_n_str, iv_n_int, okt_n, iv_b_list, iv_b_tuple, iv_b_bool, iv_b_str, iv_b_int, okt_b, iv_i_list, iv_i_tuple, iv_i_bool, iv_i_str, iv_i_int, okt_i, iv_s_list, iv_s_tuple, iv_s_bool, iv_s_str, iv_s_int, okt_s, iv_t_list, iv_t_tuple, iv_t_bool, iv_t_str, iv_t_int, okt_t, iv_r_list, iv_r_tuple, iv_r_bool, iv_r_str, iv_r_int, tru_b, tru_i, tru_n, tru_t, Option.map_some, Option.map_none, List.map_cons, List.map_nil, List.length_cons, List.length_nil, List.set_cons_zero, List.set_cons_succ, List.cons_append, List.nil_append, List.replicate, Nat.reduceAdd, Nat.reduceSub, Nat.reduceLeDiff, true_and, and_true, decide_eq_true_eq, reduceIte, Bool.false_eq_true, Bool.not_true, Bool.not_false, decide_true, decide_false]
    exact ⟨fun _ => trivial, fun _ _ z => (by cases z), Gr.refl⟩
  | some p =>
  obtain ⟨n, k1⟩ := p
  obtain ⟨n0, n1, n2⟩ := hn _ e1
  obtain ⟨w, rfl⟩ := Int.eq_ofNat_of_zero_le n0
  have n1 : (w : Int) ≤ 1000 := n1
  have n2 : k1 ≤ 1000 := n2
  have ee : ((a : Nat) : Int) + (k1 : Nat) + (w : Nat) = ((a + k1 + w : Nat) : Int) := by omega
  have ek : ((a : Nat) : Int) + (k1 : Nat) = ((a + k1 : Nat) : Int) := by omega
  rw [e1] at hR
  have hR : (rdL true 0 1 (ds.drop (a + k1 + w))).bind (fun q => if q.1 = chk 9 ((ds.drop (a + k1)).take w) then some ((ds.drop (a + k1)).take w, a + k1 + w + q.2) else none) = R := hR
  unfold rdV
  try simp -dsimp only [at0, at1, at2, at3, at4, at5, at6, wp_fn, s_nil, s_brk, s_cnt, s_expr, s_ret, s_retN, s_if, s_asn, s_par, s_asg, g_nm, g_nil, g_cons, g_tupT, g_subW, w_v0, w_vS, w_c, w_op, w_un, w_anil, w_acons, w_tup, w_lst, w_call, w_callU, w_isi, w_meth, w_tru, w_bool, w_notS, w_andS, w_orS, w_ifx, w_andV, w_orV, w_notV, w_chain, wp_ok, wp_bad, wp_some, wp_none, wp_liftif, wp_if, asB_b, wp_noex, add_ii, sub_ii, mul_ii, fdiv_ii, mod_ii, pow_ii, neg_i, cmp_ii, lt_ii, le_ii, gt_ii, ge_ii, le_cc, muls_ii, muls_si, ins_cs, iadd_ii, isub_ii, w_onone, w_osome, w_sl, sl_s, sl_t, s_aug, eq_ss, len_s, ix_s, add_ss, str_s, tuple_t, list_t, is_n, not_n, non_n, non_i, non_b, non_s, non_t, non_r, abs_i, max_ii, min_ii, int_i, int_b, gcd_ii, len_t, ix_t, eq_v, ne_v, eq_ii, eq_bb, eq_nn, eq_in, eq_ni, iv_n_list, iv_n_tuple, iv_n_bool, iv_n_str, iv_n_int, okt_n, iv_b_list, iv_b_tuple, iv_b_bool, iv_b_str, iv_b_int, okt_b, iv_i_list, iv_i_tuple, iv_i_bool, iv_i_str, iv_i_int, okt_i, iv_s_list, iv_s_tuple, iv_s_bool, iv_s_str, iv_s_int, okt_s, iv_t_list, iv_t_tuple, iv_t_bool, iv_t_str, iv_t_int, okt_t, iv_r_list, iv_r_tuple, iv_r_bool, iv_r_str, iv_r_int, tru_b, tru_i, tru_n, tru_t, Option.map_some, Option.map_none, List.map_cons, List.map_nil, List.length_cons, List.length_nil, List.set_cons_zero, List.set_cons_succ, List.cons_append, List.nil_append, List.replicate, Nat.reduceAdd, Nat.reduceSub, Nat.reduceLeDiff, true_and, and_true, decide_eq_true_eq, reduceIte, Bool.false_eq_true, Bool.not_true, Bool.not_false, decide_true, decide_false]
  rw [s_seq]
  try simp -dsimp only [at0, at1, at2, at3, at4, at5, at6, wp_fn, s_nil, s_brk, s_cnt, s_expr, s_ret, s_retN, s_if, s_asn, s_par, s_asg, g_nm, g_nil, g_cons, g_tupT, g_subW, w_v0, w_vS, w_c, w_op, w_un, w_anil, w_acons, w_tup, w_lst, w_call, w_callU, w_isi, w_meth, w_tru, w_bool, w_notS, w_andS, w_orS, w_ifx, w_andV, w_orV, w_notV, w_chain, wp_ok, wp_bad, wp_some, wp_none, wp_liftif, wp_if, asB_b, wp_noex, add_ii, sub_ii, mul_ii, fdiv_ii, mod_ii, pow_ii, neg_i, cmp_ii, lt_ii, le_ii, gt_ii, ge_ii, le_cc, muls_ii, muls_si, ins_cs, iadd_ii, isub_ii, w_onone, w_osome, w_sl, sl_s, sl_t, s_aug, eq_ss, len_s, ix_s, add_ss, str_s, tuple_t, list_t, is_n, not_n, non_n, non_i, non_b, non_s, non_t, non_r, abs_i, max_ii, min_ii, int_i, int_b, gcd_ii, len_t, ix_t, eq_v, ne_v, eq_ii, eq_bb, eq_nn, eq_in, eq_ni, iv_n_list, iv_n_tuple, iv_n_bool, iv_n_str, iv_n_int, okt_n, iv_b_list, iv_b_tuple, iv_b_bool, iv_b_str, iv_b_int, okt_b, iv_i_list, iv_i_tuple, iv_i_bool, iv_i_str, iv_i_int, okt_i, iv_s_list, iv_s_tuple, iv_s_bool, iv_s_str, iv_s_int, okt_s, iv_t_list, iv_t_tuple, iv_t_bool, iv_t_str, iv_t_int, okt_t, iv_r_list, iv_r_tuple, iv_r_bool, iv_r_str, iv_r_int, tru_b, tru_i, tru_n, tru_t, Option.map_some, Option.map_none, List.map_cons, List.map_nil, List.length_cons, List.length_nil, List.set_cons_zero, List.set_cons_succ, List.cons_append, List.nil_append, List.replicate, Nat.reduceAdd, Nat.reduceSub, Nat.reduceLeDiff, true_and, and_true, decide_eq_true_eq, reduceIte, Bool.false_eq_true, Bool.not_true, Bool.not_false, decide_true, decide_false]
  rw [ee]
  rw [s_seq]
  try simp -dsimp only [at0, at1, at2, at3, at4, at5, at6, wp_fn, s_nil, s_brk, s_cnt, s_expr, s_ret, s_retN, s_if, s_asn, s_par, s_asg, g_nm, g_nil, g_cons, g_tupT, g_subW, w_v0, w_vS, w_c, w_op, w_un, w_anil, w_acons, w_tup, w_lst, w_call, w_callU, w_isi, w_meth, w_tru, w_bool, w_notS, w_andS, w_orS, w_ifx, w_andV, w_orV, w_notV, w_chain, wp_ok, wp_bad, wp_some, wp_none, wp_liftif, wp_if, asB_b, wp_noex, add_ii, sub_ii, mul_ii, fdiv_ii, mod_ii, pow_ii, neg_i, cmp_ii, lt_ii, le_ii, gt_ii, ge_ii, le_cc, muls_ii, muls_si, ins_cs, iadd_ii, isub_ii, w_onone, w_osome, w_sl, sl_s, sl_t, s_aug, eq_ss, len_s, ix_s, add_ss, str_s, tuple_t, list_t, is_n, not_n, non_n, non_i, non_b, non_s, non_t, non_r, abs_i, max_ii, min_ii, int_i, int_b, gcd_ii, len_t, ix_t, eq_v, ne_v, eq_ii, eq_bb, eq_nn, eq_in, eq_ni, iv_n_list, iv_n_tuple, iv_n_bool, iv_n_str, iv_n_int, okt_n, iv_b_list, iv_b_tuple, iv_b_bool, iv_b_str, iv_b_int, okt_b, iv_i_list, iv_i_tuple, iv_i_bool, iv_i_str, iv_i_int, okt_i, iv_s_list, iv_s_tuple, iv_s_bool, iv_s_str, iv_s_int, okt_s, iv_t_list, iv_t_tuple, iv_t_bool, iv_t_str, iv_t_int, okt_t, iv_r_list, iv_r_tuple, iv_r_bool, iv_r_str, iv_r_int, tru_b, tru_i, tru_n, tru_t, Option.map_some, Option.map_none, List.map_cons, List.map_nil, List.length_cons, List.length_nil, List.set_cons_zero, List.set_cons_succ, List.cons_append, List.nil_append, List.replicate, Nat.reduceAdd, Nat.reduceSub, Nat.reduceLeDiff, true_and, and_true, decide_eq_true_eq, reduceIte, Bool.false_eq_true, Bool.not_true, Bool.not_false, decide_true, decide_false]
  refine (readnum_ok h hb hl (by omega)).mono ?_
  rintro _ m ⟨rfl, rfl⟩
  try simp -dsimp only [at0, at1, at2, at3, at4, at5, at6, wp_fn, s_nil, s_brk, s_cnt, s_expr, s_ret, s_retN, s_if, s_asn, s_par, s_asg, g_nm, g_nil, g_cons, g_tupT, g_subW, w_v0, w_vS, w_c, w_op, w_un, w_anil, w_acons, w_tup, w_lst, w_call, w_callU, w_isi, w_meth, w_tru, w_bool, w_notS, w_andS, w_orS, w_ifx, w_andV, w_orV, w_notV, w_chain, wp_ok, wp_bad, wp_some, wp_none, wp_liftif, wp_if, asB_b, wp_noex, add_ii, sub_ii, mul_ii, fdiv_ii, mod_ii, pow_ii, neg_i, cmp_ii, lt_ii, le_ii, gt_ii, ge_ii, le_cc, muls_ii, muls_si, ins_cs, iadd_ii, isub_ii, w_onone, w_osome, w_sl, sl_s, sl_t, s_aug, eq_ss, len_s, ix_s, add_ss, str_s, tuple_t, list_t, is_n, not_n, non_n, non_i, non_b, non_s, non_t, non_r, abs_i, max_ii, min_ii, int_i, int_b, gcd_ii, len_t, ix_t, eq_v, ne_v, eq_ii, eq_bb, eq_nn, eq_in, eq_ni, iv_n_list, iv_n_tuple, iv_n_bool, iv_n_str, iv_n_int, okt_n, iv_b_list, iv_b_tuple, iv_b_bool, iv_b_str, iv_b_int, okt_b, iv_i_list, iv_i_tuple, iv_i_bool, iv_i_str, iv_i_int, okt_i, iv_s_list, iv_s_tuple, iv_s_bool, iv_s_str, iv_s_int, okt_s, iv_t_list, iv_t_tuple, iv_t_bool, iv_t_str, iv_t_int, okt_t, iv_r_list, iv_r_tuple, iv_r_bool, iv_r_str, iv_r_int, tru_b, tru_i, tru_n, tru_t, Option.map_some, Option.map_none, List.map_cons, List.map_nil, List.length_cons, List.length_nil, List.set_cons_zero, List.set_cons_succ, List.cons_append, List.nil_append, List.replicate, Nat.reduceAdd, Nat.reduceSub, Nat.reduceLeDiff, true_and, and_true, decide_eq_true_eq, reduceIte, Bool.false_eq_true, Bool.not_true, Bool.not_false, decide_true, decide_false]
  rw [s_seq]
  cases e2 : rdL true 0 1 (ds.drop (a + k1 + w)) with
  | none =>
    rw [e2] at hR
    cases hR
    unfold rdV
    try simp -dsimp only [at0, at1, at2, at3, at4, at5, at6, wp_fn, s_nil, s_brk, s_cnt, s_expr, s_ret, s_retN, s_if, s_asn, s_par, s_asg, g_nm, g_nil, g_cons, g_tupT, g_subW, w_v0, w_vS, w_c, w_op, w_un, w_anil, w_acons, w_tup, w_lst, w_call, w_callU, w_isi, w_meth, w_tru, w_bool, w_notS, w_andS, w_orS, w_ifx, w_andV, w_orV, w_notV, w_chain, wp_ok, wp_bad, wp_some, wp_none, wp_liftif, wp_if, asB_b, wp_noex, add_ii, sub_ii, mul_ii, fdiv_ii, mod_ii, pow_ii, neg_i, cmp_ii, lt_ii, le_ii, gt_ii, ge_ii, le_cc, muls_ii, muls_si, ins_cs, iadd_ii, isub_ii, w_onone, w_osome, w_sl, sl_s, sl_t, s_aug, eq_ss, len_s, ix_s, add_ss, str_s, tuple_t, list_t, is_n, not_n, non_n, non_i, non_b, non_s, non_t, non_r, abs_i, max_ii, min_ii, int_i, int_b, gcd_ii, len_t, ix_t, eq_v, ne_v, eq_ii, eq_bb, eq_nn, eq_in, eq_ni, iv_n_list, iv_n_tuple, iv_n_bool, iv_n_str, iv_n_int, okt_n, iv_b_list, iv_b_tuple, iv_b_bool, iv_b_str, iv_b_int, okt_b, iv_i_list, iv_i_tuple, iv_i_bool, iv_i_str, iv_i_int, okt_i, iv_s_list, iv_s_tuple, iv_s_bool, iv_s_str, iv_s_int, okt_s, iv_t_list, iv_t_tuple, iv_t_bool, iv_t_str, iv_t_int, okt_t, iv_r_list, iv_r_tuple, iv_r_bool, iv_r_str, iv_r_int, tru_b, tru_i, tru_n, tru_t, Option.map_some, Option.map_none, List.map_cons, List.map_nil, List.length_cons, List.length_nil, List.set_cons_zero, List.set_cons_succ, List.cons_append, List.nil_append, List.replicate, Nat.reduceAdd, Nat.reduceSub, Nat.reduceLeDiff, true_and, and_true, decide_eq_true_eq, reduceIte, Bool.false_eq_true, Bool.not_true, Bool.not_false, decide_true, decide_false]
    exact ⟨fun _ => trivial, fun _ _ z => (by cases z), Gr.refl⟩
  | some q =>
  obtain ⟨c, k2⟩ := q
  rw [e2] at hR
  have hR : (if c = chk 9 ((ds.drop (a + k1)).take w) then some ((ds.drop (a + k1)).take w, a + k1 + w + k2) else none) = R := hR
  unfold rdV
  try simp -dsimp only [at0, at1, at2, at3, at4, at5, at6, wp_fn, s_nil, s_brk, s_cnt, s_expr, s_ret, s_retN, s_if, s_asn, s_par, s_asg, g_nm, g_nil, g_cons, g_tupT, g_subW, w_v0, w_vS, w_c, w_op, w_un, w_anil, w_acons, w_tup, w_lst, w_call, w_callU, w_isi, w_meth, w_tru, w_bool, w_notS, w_andS, w_orS, w_ifx, w_andV, w_orV, w_notV, w_chain, wp_ok, wp_bad, wp_some, wp_none, wp_liftif, wp_if, asB_b, wp_noex, add_ii, sub_ii, mul_ii, fdiv_ii, mod_ii, pow_ii, neg_i, cmp_ii, lt_ii, le_ii, gt_ii, ge_ii, le_cc, muls_ii, muls_si, ins_cs, iadd_ii, isub_ii, w_onone, w_osome, w_sl, sl_s, sl_t, s_aug, eq_ss, len_s, ix_s, add_ss, str_s, tuple_t, list_t, is_n, not_n, non_n, non_i, non_b, non_s, non_t, non_r, abs_i, max_ii, min_ii, int_i, int_b, gcd_ii, len_t, ix_t, eq_v, ne_v, eq_ii, eq_bb, eq_nn, eq_in, eq_ni, iv_n_list, iv_n_tuple, iv_n_bool, iv_n_str, iv_n_int, okt_n, iv_b_list, iv_b_tuple, iv_b_bool, iv_b_str, iv_b_int, okt_b, iv_i_list, iv_i_tuple, iv_i_bool, iv_i_str, iv_i_int, okt_i, iv_s_list, iv_s_tuple, iv_s_bool, iv_s_str, iv_s_int, okt_s, iv_t_list, iv_t_tuple, iv_t_bool, iv_t_str, iv_t_int, okt_t, iv_r_list, iv_r_tuple, iv_r_bool, iv_r_str, iv_r_int, tru_b, tru_i, tru_n, tru_t, Option.map_some, Option.map_none, List.map_cons, List.map_nil, List.length_cons, List.length_nil, List.set_cons_zero, List.set_cons_succ, List.cons_append, List.nil_append, List.replicate, Nat.reduceAdd, Nat.reduceSub, Nat.reduceLeDiff, true_and, and_true, decide_eq_true_eq, reduceIte, Bool.false_eq_true, Bool.not_true, Bool.not_false, decide_true, decide_false]
  rw [s_seq]
  try simp -dsimp only [at0, at1, at2, at3, at4, at5, at6, wp_fn, s_nil, s_brk, s_cnt, s_expr, s_ret, s_retN, s_if, s_asn, s_par, s_asg, g_nm, g_nil, g_cons, g_tupT, g_subW, w_v0, w_vS, w_c, w_op, w_un, w_anil, w_acons, w_tup, w_lst, w_call, w_callU, w_isi, w_meth, w_tru, w_bool, w_notS, w_andS, w_orS, w_ifx, w_andV, w_orV, w_notV, w_chain, wp_ok, wp_bad, wp_some, wp_none, wp_liftif, wp_if, asB_b, wp_noex, add_ii, sub_ii, mul_ii, fdiv_ii, mod_ii, pow_ii, neg_i, cmp_ii, lt_ii, le_ii, gt_ii, ge_ii, le_cc, muls_ii, muls_si, ins_cs, iadd_ii, isub_ii, w_onone, w_osome, w_sl, sl_s, sl_t, s_aug, eq_ss, len_s, ix_s, add_ss, str_s, tuple_t, list_t, is_n, not_n, non_n, non_i, non_b, non_s, non_t, non_r, abs_i, max_ii, min_ii, int_i, int_b, gcd_ii, len_t, ix_t, eq_v, ne_v, eq_ii, eq_bb, eq_nn, eq_in, eq_ni, iv_n_list, iv_n_tuple, iv_n_bool, iv_n_str, iv_n_int, okt_n, iv_b_list, iv_b_tuple, iv_b_bool, iv_b_str, iv_b_int, okt_b, iv_i_list, iv_i_tuple, iv_i_bool, iv_i_str, iv_i_int, okt_i, iv_s_list, iv_s_tuple, iv_s_bool, iv_s_str, iv_s_int, okt_s, iv_t_list, iv_t_tuple, iv_t_bool, iv_t_str, iv_t_int, okt_t, iv_r_list, iv_r_tuple, iv_r_bool, iv_r_str, iv_r_int, tru_b, tru_i, tru_n, tru_t, Option.map_some, Option.map_none, List.map_cons, List.map_nil, List.length_cons, List.length_nil, List.set_cons_zero, List.set_cons_succ, List.cons_append, List.nil_append, List.replicate, Nat.reduceAdd, Nat.reduceSub, Nat.reduceLeDiff, true_and, and_true, decide_eq_true_eq, reduceIte, Bool.false_eq_true, Bool.not_true, Bool.not_false, decide_true, decide_false]
  rw [ek, slr_r (seq_of_lst h), cut_mid]
  have ec : ((ds.map PV.int).drop (a + k1)).take (a + k1 + w - (a + k1)) = ((ds.drop (a + k1)).take w).map .int := by
    rw [List.map_take, List.map_drop, Nat.add_sub_cancel_left]
  rw [ec]
  have B := get_new (m := m) (o := MO.lst (((ds.drop (a + k1)).take w).map PV.int))
  generalize hbd : (ds.drop (a + k1)).take w = b at *
  try simp -dsimp only [list_r (seq_of_lst B), at0, at1, at2, at3, at4, at5, at6, wp_fn, s_nil, s_brk, s_cnt, s_expr, s_ret, s_retN, s_if, s_asn, s_par, s_asg, g_nm, g_nil, g_cons, g_tupT, g_subW, w_v0, w_vS, w_c, w_op, w_un, w_anil, w_acons, w_tup, w_lst, w_call, w_callU, w_isi, w_meth, w_tru, w_bool, w_notS, w_andS, w_orS, w_ifx, w_andV, w_orV, w_notV, w_chain, wp_ok, wp_bad, wp_some, wp_none, wp_liftif, wp_if, asB_b, wp_noex, add_ii, sub_ii, mul_ii, fdiv_ii, mod_ii, pow_ii, neg_i, cmp_ii, lt_ii, le_ii, gt_ii, ge_ii, le_cc, muls_ii, muls_si, ins_cs, iadd_ii, isub_ii, w_onone, w_osome, w_sl, sl_s, sl_t, s_aug, eq_ss, len_s, ix_s, add_ss, str_s, tuple_t, list_t, is_n, not_n, non_n, non_i, non_b, non_s, non_t, non_r, abs_i, max_ii, min_ii, int_i, int_b, gcd_ii, len_t, ix_t, eq_v, ne_v, eq_ii, eq_bb, eq_nn, eq_in, eq_ni, iv_n_list, iv_n_tuple, iv_n_bool, iv_n_str, iv_n_int, okt_n, iv_b_list, iv_b_tuple, iv_b_bool, iv_b_str, iv_b_int, okt_b, iv_i_list, iv_i_tuple, iv_i_bool, iv_i_str, iv_i_int, okt_i, iv_s_list, iv_s_tuple, iv_s_bool, iv_s_str, iv_s_int, okt_s, iv_t_list, iv_t_tuple, iv_t_bool, iv_t_str, iv_t_int, okt_t, iv_r_list, iv_r_tuple, iv_r_bool, iv_r_str, iv_r_int, tru_b, tru_i, tru_n, tru_t, Option.map_some, Option.map_none, List.map_cons, List.map_nil, List.length_cons, List.length_nil, List.set_cons_zero, List.set_cons_succ, List.cons_append, List.nil_append, List.replicate, Nat.reduceAdd, Nat.reduceSub, Nat.reduceLeDiff, true_and, and_true, decide_eq_true_eq, reduceIte, Bool.false_eq_true, Bool.not_true, Bool.not_false, decide_true, decide_false]
  have B2 := get_new (m := m ++ [MO.lst (b.map PV.int)]) (o := MO.lst (b.map PV.int))
  have G2 := (Gr.one (m := m) (o := MO.lst (b.map PV.int))).push (MO.lst (b.map PV.int))
  generalize m ++ [MO.lst (b.map PV.int)] ++ [MO.lst (b.map PV.int)] = m2 at *
  generalize (m ++ [MO.lst (b.map PV.int)]).length = bn at *
  rw [s_seq]
  try simp -dsimp only [at0, at1, at2, at3, at4, at5, at6, wp_fn, s_nil, s_brk, s_cnt, s_expr, s_ret, s_retN, s_if, s_asn, s_par, s_asg, g_nm, g_nil, g_cons, g_tupT, g_subW, w_v0, w_vS, w_c, w_op, w_un, w_anil, w_acons, w_tup, w_lst, w_call, w_callU, w_isi, w_meth, w_tru, w_bool, w_notS, w_andS, w_orS, w_ifx, w_andV, w_orV, w_notV, w_chain, wp_ok, wp_bad, wp_some, wp_none, wp_liftif, wp_if, asB_b, wp_noex, add_ii, sub_ii, mul_ii, fdiv_ii, mod_ii, pow_ii, neg_i, cmp_ii, lt_ii, le_ii, gt_ii, ge_ii, le_cc, muls_ii, muls_si, ins_cs, iadd_ii, isub_ii, w_onone, w_osome, w_sl, sl_s, sl_t, s_aug, eq_ss, len_s, ix_s, add_ss, str_s, tuple_t, list_t, is_n, not_n, non_n, non_i, non_b, non_s, non_t, non_r, abs_i, max_ii, min_ii, int_i, int_b, gcd_ii, len_t, ix_t, eq_v, ne_v, eq_ii, eq_bb, eq_nn, eq_in, eq_ni, iv_n_list, iv_n_tuple, iv_n_bool, iv_n_str, iv_n_int, okt_n, iv_b_list, iv_b_tuple, iv_b_bool, iv_b_str, iv_b_int, okt_b, iv_i_list, iv_i_tuple, iv_i_bool, iv_i_str, iv_i_int, okt_i, iv_s_list, iv_s_tuple, iv_s_bool, iv_s_str, iv_s_int, okt_s, iv_t_list, iv_t_tuple, iv_t_bool, iv_t_str, iv_t_int, okt_t, iv_r_list, iv_r_tuple, iv_r_bool, iv_r_str, iv_r_int, tru_b, tru_i, tru_n, tru_t, Option.map_some, Option.map_none, List.map_cons, List.map_nil, List.length_cons, List.length_nil, List.set_cons_zero, List.set_cons_succ, List.cons_append, List.nil_append, List.replicate, Nat.reduceAdd, Nat.reduceSub, Nat.reduceLeDiff, true_and, and_true, decide_eq_true_eq, reduceIte, Bool.false_eq_true, Bool.not_true, Bool.not_false, decide_true, decide_false]
  refine (sumbody_ok B2).mono ?_
  rintro _ m2 ⟨rfl, rfl⟩
  try simp -dsimp only [at0, at1, at2, at3, at4, at5, at6, wp_fn, s_nil, s_brk, s_cnt, s_expr, s_ret, s_retN, s_if, s_asn, s_par, s_asg, g_nm, g_nil, g_cons, g_tupT, g_subW, w_v0, w_vS, w_c, w_op, w_un, w_anil, w_acons, w_tup, w_lst, w_call, w_callU, w_isi, w_meth, w_tru, w_bool, w_notS, w_andS, w_orS, w_ifx, w_andV, w_orV, w_notV, w_chain, wp_ok, wp_bad, wp_some, wp_none, wp_liftif, wp_if, asB_b, wp_noex, add_ii, sub_ii, mul_ii, fdiv_ii, mod_ii, pow_ii, neg_i, cmp_ii, lt_ii, le_ii, gt_ii, ge_ii, le_cc, muls_ii, muls_si, ins_cs, iadd_ii, isub_ii, w_onone, w_osome, w_sl, sl_s, sl_t, s_aug, eq_ss, len_s, ix_s, add_ss, str_s, tuple_t, list_t, is_n, not_n, non_n, non_i, non_b, non_s, non_t, non_r, abs_i, max_ii, min_ii, int_i, int_b, gcd_ii, len_t, ix_t, eq_v, ne_v, eq_ii, eq_bb, eq_nn, eq_in, eq_ni, iv_n_list, iv_n_tuple, iv_n_bool, iv_n_str, iv_n_int, okt_n, iv_b_list, iv_b_tuple, iv_b_bool, iv_b_str, iv_b_int, okt_b, iv_i_list, iv_i_tuple, iv_i_bool, iv_i_str, iv_i_int, okt_i, iv_s_list, iv_s_tuple, iv_s_bool, iv_s_str, iv_s_int, okt_s, iv_t_list, iv_t_tuple, iv_t_bool, iv_t_str, iv_t_int, okt_t, iv_r_list, iv_r_tuple, iv_r_bool, iv_r_str, iv_r_int, tru_b, tru_i, tru_n, tru_t, Option.map_some, Option.map_none, List.map_cons, List.map_nil, List.length_cons, List.length_nil, List.set_cons_zero, List.set_cons_succ, List.cons_append, List.nil_append, List.replicate, Nat.reduceAdd, Nat.reduceSub, Nat.reduceLeDiff, true_and, and_true, decide_eq_true_eq, reduceIte, Bool.false_eq_true, Bool.not_true, Bool.not_false, decide_true, decide_false]
  by_cases c0 : c = chk 9 b
  · rw [if_pos c0] at hR
    cases hR
    rw [decide_eq_true c0]
    try simp -dsimp only [at0, at1, at2, at3, at4, at5, at6, wp_fn, s_nil, s_brk, s_cnt, s_expr, s_ret, s_retN, s_if, s_asn, s_par, s_asg, g_nm, g_nil, g_cons, g_tupT, g_subW, w_v0, w_vS, w_c, w_op, w_un, w_anil, w_acons, w_tup, w_lst, w_call, w_callU, w_isi, w_meth, w_tru, w_bool, w_notS, w_andS, w_orS, w_ifx, w_andV, w_orV, w_notV, w_chain, wp_ok, wp_bad, wp_some, wp_none, wp_liftif, wp_if, asB_b, wp_noex, add_ii, sub_ii, mul_ii, fdiv_ii, mod_ii, pow_ii, neg_i, cmp_ii, lt_ii, le_ii, gt_ii, ge_ii, le_cc, muls_ii, muls_si, ins_cs, iadd_ii, isub_ii, w_onone, w_osome, w_sl, sl_s, sl_t, s_aug, eq_ss, len_s, ix_s, add_ss, str_s, tuple_t, list_t, is_n, not_n, non_n, non_i, non_b, non_s, non_t, non_r, abs_i, max_ii, min_ii, int_i, int_b, gcd_ii, len_t, ix_t, eq_v, ne_v, eq_ii, eq_bb, eq_nn, eq_in, eq_ni, iv_n_list, iv_n_tuple, iv_n_bool, iv_n_str, iv_n_int, okt_n, iv_b_list, iv_b_tuple, iv_b_bool, iv_b_str, iv_b_int, okt_b, iv_i_list, iv_i_tuple, iv_i_bool, iv_i_str, iv_i_int, okt_i, iv_s_list, iv_s_tuple, iv_s_bool, iv_s_str, iv_s_int, okt_s, iv_t_list, iv_t_tuple, iv_t_bool, iv_t_str, iv_t_int, okt_t, iv_r_list, iv_r_tuple, iv_r_bool, iv_r_str, iv_r_int, tru_b, tru_i, tru_n, tru_t, Option.map_some, Option.map_none, List.map_cons, List.map_nil, List.length_cons, List.length_nil, List.set_cons_zero, List.set_cons_succ, List.cons_append, List.nil_append, List.replicate, Nat.reduceAdd, Nat.reduceSub, Nat.reduceLeDiff, true_and, and_true, decide_eq_true_eq, reduceIte, Bool.false_eq_true, Bool.not_true, Bool.not_false, decide_true, decide_false]
    refine ⟨fun z => (by cases z), fun b' e' z => ?_, G2⟩
    cases z
    exact ⟨_, by rw [show ((a + k1 + w : Nat) : Int) + (k2 : Nat) = ((a + k1 + w + k2 : Nat) : Int) by omega], B2⟩
  · rw [if_neg c0] at hR
    cases hR
    rw [decide_eq_false c0]
    try simp -dsimp only [at0, at1, at2, at3, at4, at5, at6, wp_fn, s_nil, s_brk, s_cnt, s_expr, s_ret, s_retN, s_if, s_asn, s_par, s_asg, g_nm, g_nil, g_cons, g_tupT, g_subW, w_v0, w_vS, w_c, w_op, w_un, w_anil, w_acons, w_tup, w_lst, w_call, w_callU, w_isi, w_meth, w_tru, w_bool, w_notS, w_andS, w_orS, w_ifx, w_andV, w_orV, w_notV, w_chain, wp_ok, wp_bad, wp_some, wp_none, wp_liftif, wp_if, asB_b, wp_noex, add_ii, sub_ii, mul_ii, fdiv_ii, mod_ii, pow_ii, neg_i, cmp_ii, lt_ii, le_ii, gt_ii, ge_ii, le_cc, muls_ii, muls_si, ins_cs, iadd_ii, isub_ii, w_onone, w_osome, w_sl, sl_s, sl_t, s_aug, eq_ss, len_s, ix_s, add_ss, str_s, tuple_t, list_t, is_n, not_n, non_n, non_i, non_b, non_s, non_t, non_r, abs_i, max_ii, min_ii, int_i, int_b, gcd_ii, len_t, ix_t, eq_v, ne_v, eq_ii, eq_bb, eq_nn, eq_in, eq_ni, iv_n_list, iv_n_tuple, iv_n_bool, iv_n_str, iv_n_int, okt_n, iv_b_list, iv_b_tuple, iv_b_bool, iv_b_str, iv_b_int, okt_b, iv_i_list, iv_i_tuple, iv_i_bool, iv_i_str, iv_i_int, okt_i, iv_s_list, iv_s_tuple, iv_s_bool, iv_s_str, iv_s_int, okt_s, iv_t_list, iv_t_tuple, iv_t_bool, iv_t_str, iv_t_int, okt_t, iv_r_list, iv_r_tuple, iv_r_bool, iv_r_str, iv_r_int, tru_b, tru_i, tru_n, tru_t, Option.map_some, Option.map_none, List.map_cons, List.map_nil, List.length_cons, List.length_nil, List.set_cons_zero, List.set_cons_succ, List.cons_append, List.nil_append, List.replicate, Nat.reduceAdd, Nat.reduceSub, Nat.reduceLeDiff, true_and, and_true, decide_eq_true_eq, reduceIte, Bool.false_eq_true, Bool.not_true, Bool.not_false, decide_true, decide_false]
    exact ⟨fun _ => trivial, fun _ _ z => (by cases z), G2⟩
/-! ## comprehensions that go item by item -/
theorem lc_mapL {α : Type} {f g : α → PV} {l : SM.Loc} {m : MH} {i : Nat} {Q : PV → MH → Prop} {E : EX} {se body : SE} (hi : i < l.length)
    (h : WP (se l m) (fun x m1 => ∃ (n : Nat) (xs : List α), x = .ref n ∧ m1[n]? = some (.lst (xs.map f)) ∧ xs.length ≤ 10000 ∧ (∀ x ∈ xs, ∀ m2, WP (body ((l.set i none).set i (some (f x))) m2) (fun y m' => y = g x ∧ m' = m2) NoE) ∧
      ∀ m2, Gr m1 m2 → m2[m1.length]? = some (.lst (xs.map g)) → Q (.ref m1.length) m2) NoE) : WP (sLc (iSeq se) (gNm i) tYesS body [i] l m) Q E := by
  refine w_lcL (h.mono ?_)
  rintro _ m1 ⟨n, xs, rfl, hn, hl, hb, q⟩
  refine ⟨n, _, rfl, seq_of_lst hn, fun j acc m2 => acc = (xs.take j).map g ∧ Gr m1 m2, ⟨rfl, Gr.one⟩, ?_, ?_⟩
  · rintro j x acc m2 hx ha ⟨rfl, G⟩
    refine ⟨seq_of_lst (G.get _ _ hn), ?_⟩
    rw [List.getElem?_map] at hx
    cases es : xs[j]? with
    | none => rw [es] at hx; cases hx
    | some r =>
    rw [es] at hx
    cases hx
    have hj := (List.getElem?_eq_some_iff.mp es).1
    have et : xs.take (j + 1) = xs.take j ++ [r] := by rw [List.take_succ, es]; rfl
    simp only [wipeP]
    rw [g_nm, w_yes, if_pos rfl]
    refine (hb r (List.mem_of_getElem? es) m2).mono ?_
    rintro _ m2 ⟨rfl, rfl⟩
    exact ⟨ha, by rw [List.length_map, List.length_take]; omega, by rw [et, List.map_append]; rfl, G.set (Nat.le_refl _)⟩
  · rintro acc m2 ha ⟨rfl, G⟩
    rw [List.length_map, List.take_length] at ha
    exact ⟨seq_of_lst (G.get _ _ hn), q m2 G ha⟩
theorem lc_mapT {α : Type} {f g : α → PV} {l : SM.Loc} {m : MH} {i : Nat} {Q : PV → MH → Prop} {E : EX} {se body : SE} (hi : i < l.length)
    (h : WP (se l m) (fun x m1 => ∃ (xs : List α), x = .tup (xs.map f) ∧ xs.length ≤ 10000 ∧ (∀ x ∈ xs, ∀ m2, WP (body ((l.set i none).set i (some (f x))) m2) (fun y m' => y = g x ∧ m' = m2) NoE) ∧
      ∀ m2, Gr m1 m2 → m2[m1.length]? = some (.lst (xs.map g)) → Q (.ref m1.length) m2) NoE) : WP (sLc (iSeq se) (gNm i) tYesS body [i] l m) Q E := by
  refine w_lcT (h.mono ?_)
  rintro _ m1 ⟨xs, rfl, hl, hb, q⟩
  refine ⟨_, rfl, fun j acc m2 => acc = (xs.take j).map g ∧ Gr m1 m2, ⟨rfl, Gr.one⟩, ?_, ?_⟩
  · rintro j x acc m2 hx ha ⟨rfl, G⟩
    rw [List.getElem?_map] at hx
    cases es : xs[j]? with
    | none => rw [es] at hx; cases hx
    | some r =>
    rw [es] at hx
    cases hx
    have hj := (List.getElem?_eq_some_iff.mp es).1
    have et : xs.take (j + 1) = xs.take j ++ [r] := by rw [List.take_succ, es]; rfl
    simp only [wipeP]
    rw [g_nm, w_yes, if_pos rfl]
    refine (hb r (List.mem_of_getElem? es) m2).mono ?_
    rintro _ m2 ⟨rfl, rfl⟩
    exact ⟨ha, by rw [List.length_map, List.length_take]; omega, by rw [et, List.map_append]; rfl, G.set (Nat.le_refl _)⟩
  · rintro acc m2 ha ⟨rfl, G⟩
    rw [List.length_map, List.take_length] at ha
    exact q m2 G ha
/-! ### records in data -/
theorem rd_full {ds B C : List Int} {a : Nat} (h : ds.drop a = nbF (B.length : Nat) ++ (B ++ C)) : rdL true 0 1 (ds.drop a) = some (((B.length : Nat) : Int), (nbF (B.length : Nat)).length) := by
  rw [h, (nbF_sp (by omega)).read true 0 1 _ (.inl rfl)]
  congr 2
  omega
theorem rr_full {ds B C : List Int} {a : Nat} (h : ds.drop a = nbF (B.length : Nat) ++ (B ++ C)) : rr ds a = (rdL true 0 1 C).bind fun q => if q.1 = chk 9 B then some (B, a + (nbF (B.length : Nat)).length + B.length + q.2) else none := by
  unfold rr
  rw [rd_full h]
  have e1 : ds.drop (a + (nbF (B.length : Nat)).length) = B ++ C := by
    rw [← List.drop_drop, h, List.drop_left]
  have e2 : ds.drop (a + (nbF (B.length : Nat)).length + B.length) = C := by
    rw [← List.drop_drop, e1, List.drop_left]
  show (rdL true 0 1 (ds.drop (a + (nbF (B.length : Nat)).length + B.length))).bind (fun q => if q.1 = chk 9 ((ds.drop (a + (nbF (B.length : Nat)).length)).take B.length) then some ((ds.drop (a + (nbF (B.length : Nat)).length)).take B.length, a + (nbF (B.length : Nat)).length + B.length + q.2) else none) = _
  rw [e2, e1, List.take_left]
theorem rdC {n : Int} {post : List Int} (h : 0 ≤ n) : rdL true 0 1 (nbF n ++ post) = some (n, (nbF n).length) := by
  rw [(nbF_sp h).read true 0 1 _ (.inl rfl)]
  congr 2
  omega
theorem recF_app {b post : List Int} : recF b ++ post = nbF (b.length : Nat) ++ (b ++ (nbF (chk 9 b) ++ post)) := by unfold recF; simp
theorem recF_l {b : List Int} : (recF b).length = (nbF (b.length : Nat)).length + b.length + (nbF (chk 9 b)).length := by unfold recF; simp; omega
theorem rr_at {ds b post : List Int} {a : Nat} (h : ds.drop a = recF b ++ post) : rr ds a = some (b, a + (recF b).length) := by
  rw [recF_app] at h
  rw [rr_full h, rdC chk9.1]
  show (if chk 9 b = chk 9 b then _ else _) = _
  rw [if_pos rfl, recF_l]
  congr 2
  omega
theorem rn_full {ds B C : List Int} {a : Nat} (hB : B.length ≤ 168) (h : ds.drop a = nbF (B.length : Nat) ++ (B ++ C)) : ∀ p, rdL true 0 1 (ds.drop a) = some p → 0 ≤ p.1 ∧ p.1 ≤ 1000 ∧ p.2 ≤ 1000 := by
  intro p e
  rw [rd_full h] at e
  cases e
  have := nbF_len (n := (B.length : Nat)) (by omega) (by omega)
  refine ⟨?_, ?_, ?_⟩
  · show (0 : Int) ≤ (B.length : Nat); omega
  · show ((B.length : Nat) : Int) ≤ 1000; omega
  · show (nbF (B.length : Nat)).length ≤ 1000; omega
theorem rn_none {ds : List Int} {a : Nat} (h : rdL true 0 1 (ds.drop a) = none) : ∀ p, rdL true 0 1 (ds.drop a) = some p → 0 ≤ p.1 ∧ p.1 ≤ 1000 ∧ p.2 ≤ 1000 := by
  intro p e
  rw [h] at e
  cases e
theorem rr_none {ds : List Int} {a : Nat} (h : rdL true 0 1 (ds.drop a) = none) : rr ds a = none := by
  unfold rr
  rw [h]
  rfl
theorem rr_end {ds : List Int} : rdL true 0 1 (ds.drop ds.length) = none := by rw [List.drop_length]; rfl
theorem rr_cut {b : List Int} {c : Nat} (hb : Byt b) (h : c < (recF b).length) : rr ((recF b).take c) 0 = none ∧ ∀ p, rdL true 0 1 (((recF b).take c).drop 0) = some p → 0 ≤ p.1 ∧ p.1 ≤ 1000 ∧ p.2 ≤ 1000 := by
  have e := recF_app (b := b) (post := [])
  rw [List.append_nil, List.append_nil] at e
  rw [recF_l] at h
  by_cases h1 : c < (nbF (b.length : Nat)).length
  · have : rdL true 0 1 (((recF b).take c).drop 0) = none := by
      rw [List.drop_zero, e, List.take_append_of_le_length (by omega)]
      exact (nbF_sp (by omega)).cut h1 true 0 1
    exact ⟨rr_none this, rn_none this⟩
  · by_cases h2 : c < (nbF (b.length : Nat)).length + b.length
    · -- the body itself is cut: nothing stands where the sum should
      have hd : ((recF b).take c).drop 0 = nbF (b.length : Nat) ++ b.take (c - (nbF (b.length : Nat)).length) := by
        rw [List.drop_zero, e, List.take_append, List.take_of_length_le (by omega), List.take_append_of_le_length (by omega)]
      have hr : rdL true 0 1 (((recF b).take c).drop 0) = some (((b.length : Nat) : Int), (nbF (b.length : Nat)).length) := by
        rw [hd]
        exact rdC (by omega)
      refine ⟨?_, fun p ep => ?_⟩
      · unfold rr
        rw [hr]
        show (rdL true 0 1 (((recF b).take c).drop (0 + (nbF (b.length : Nat)).length + b.length))).bind _ = none
        rw [List.drop_of_length_le (by rw [List.length_take, recF_l]; omega)]
        rfl
      · rw [hr] at ep
        cases ep
        have h3 := nbF_len (n := (b.length : Nat)) (by omega) (by have := hb.2; omega)
        have h4 := hb.2
        refine ⟨?_, ?_, ?_⟩
        · show (0 : Int) ≤ (b.length : Nat); omega
        · show ((b.length : Nat) : Int) ≤ 1000; omega
        · show (nbF (b.length : Nat)).length ≤ 1000; omega
    · have hd : ((recF b).take c).drop 0 = nbF (b.length : Nat) ++ (b ++ (nbF (chk 9 b)).take (c - (nbF (b.length : Nat)).length - b.length)) := by
        rw [List.drop_zero, e, List.take_append, List.take_of_length_le (by omega), List.take_append, List.take_of_length_le (by omega)]
      refine ⟨?_, rn_full hb.2 hd⟩
      rw [rr_full hd, (nbF_sp chk9.1).cut (by omega)]
      rfl
theorem rr_chg {b b' : List Int} (hl : b'.length = b.length) (hb : Byt b) (hc : chk 9 b' ≠ chk 9 b) : rr (nbF (b.length : Nat) ++ (b' ++ nbF (chk 9 b))) 0 = none ∧ ∀ p, rdL true 0 1 ((nbF (b.length : Nat) ++ (b' ++ nbF (chk 9 b))).drop 0) = some p → 0 ≤ p.1 ∧ p.1 ≤ 1000 ∧ p.2 ≤ 1000 := by
  have hd : (nbF (b.length : Nat) ++ (b' ++ nbF (chk 9 b))).drop 0 = nbF (b'.length : Nat) ++ (b' ++ nbF (chk 9 b)) := by rw [List.drop_zero, hl]
  refine ⟨?_, rn_full (by rw [hl]; exact hb.2) hd⟩
  have e := rdC (n := chk 9 b) (post := []) chk9.1
  rw [List.append_nil] at e
  rw [rr_full hd, e]
  show (if chk 9 b = chk 9 b' then _ else _) = _
  rw [if_neg (fun h => hc h.symm)]
/-! ### the bodies of the draws -/
theorem mul_r {m : MH} {i : Nat} {xs : List PV} {n : Int} (h : lst? m i = some xs) (h0 : 0 ≤ n) (h1 : n ≤ 1000) (h2 : xs.length ≤ 1000) : mulvS (.ref i) (.int n) m = some (.ref m.length, m ++ [.lst (List.replicate n.toNat xs).flatten]) := by
  unfold mulvS
  dsimp only
  rw [h]
  dsimp only
  rw [if_pos ⟨h0, h1, h2⟩]
structure Bds (m : MH) (lo : Nat) (xs : List PV) (bs : List (List Int)) : Prop where
  len : xs.length = bs.length
  at_ : ∀ (i : Nat) (x : PV), xs[i]? = some x → ∃ (k : Nat) (b : List Int), x = PV.ref k ∧ lo < k ∧ bs[i]? = some b ∧ m[k]? = some (.lst (b.map .int)) ∧ Byt b
theorem Bds.mono {m m' : MH} {lo : Nat} {xs : List PV} {bs : List (List Int)} (h : Bds m lo xs bs) (G : Gr m m') : Bds m' lo xs bs :=
  ⟨h.len, fun i x hx => by
    obtain ⟨k, b, e, hk, hb, hm, hB⟩ := h.at_ i x hx
    exact ⟨k, b, e, hk, hb, G.get _ _ hm, hB⟩⟩
theorem Bds.snoc {m : MH} {lo k : Nat} {xs : List PV} {bs : List (List Int)} {b : List Int} (h : Bds m lo xs bs) (hk : lo < k) (hm : m[k]? = some (.lst (b.map .int))) (hB : Byt b) : Bds m lo (xs ++ [.ref k]) (bs ++ [b]) :=
  ⟨by simp [h.len], fun i x hx => by
    by_cases c : i < xs.length
    · rw [List.getElem?_append_left c] at hx
      obtain ⟨k, b', e, hk, hb, hm, hB⟩ := h.at_ i x hx
      exact ⟨k, b', e, hk, by rw [List.getElem?_append_left (by rw [← h.len]; exact c)]; exact hb, hm, hB⟩
    · have hi := (List.getElem?_eq_some_iff.mp hx).1
      have : i = xs.length := by simp at hi; omega
      subst this
      rw [List.getElem?_append_right (Nat.le_refl _), Nat.sub_self] at hx
      cases hx
      exact ⟨k, b, rfl, hk, by rw [h.len, List.getElem?_append_right (Nat.le_refl _), Nat.sub_self]; rfl, hm, hB⟩⟩
theorem Bds.set {m : MH} {lo : Nat} {xs : List PV} {bs : List (List Int)} {o : MO} (h : Bds m lo xs bs) : Bds (m.set lo o) lo xs bs :=
  ⟨h.len, fun i x hx => by
    obtain ⟨k, b, e, hk, hb, hm, hB⟩ := h.at_ i x hx
    exact ⟨k, b, e, hk, hb, get_set_ne hm (by omega), hB⟩⟩
theorem byt_rep {ds : List Int} {n : Nat} (h : ds.length ≤ 14) (hn : n ≤ 12) : Byt (List.replicate n (ds.map fun d => d % 256)).flatten := by
  constructor
  · intro d hd
    obtain ⟨l, h1, h2⟩ := List.mem_flatten.mp hd
    obtain ⟨_, rfl⟩ := List.mem_replicate.mp h1
    obtain ⟨x, _, rfl⟩ := List.mem_map.mp h2
    exact ⟨Int.emod_nonneg _ (by decide), Int.emod_lt_of_pos _ (by decide)⟩
  · rw [List.length_flatten, List.map_replicate, List.sum_replicate_nat, List.length_map]
    have : n * ds.length ≤ 12 * 14 := Nat.mul_le_mul hn h
    omega
theorem lbodies_ok {m : MH} {ns : List Int} {r : Nat} (h : m[r]? = some (.frz (ns.map .int))) : WP (f_law_bodies [.ref r] m) (fun x m' => ∃ (xs : List PV) (bs : List (List Int)), x = .ref m.length ∧ m'[m.length]? = some (.lst xs) ∧ Bds m' m.length xs bs ∧ 0 < bs.length ∧ bs.length ≤ 4 ∧ Gr m m') NoE := by
  have hr : r < m.length := (List.getElem?_eq_some_iff.mp h).1
  unfold f_law_bodies b_law_bodies
  try simp -dsimp only [at0, at1, at2, at3, at4, at5, at6, wp_fn, s_nil, s_brk, s_cnt, s_expr, s_ret, s_retN, s_if, s_asn, s_par, s_asg, g_nm, g_nil, g_cons, g_tupT, g_subW, w_v0, w_vS, w_c, w_op, w_un, w_anil, w_acons, w_tup, w_lst, w_call, w_callU, w_isi, w_meth, w_tru, w_bool, w_notS, w_andS, w_orS, w_ifx, w_andV, w_orV, w_notV, w_chain, wp_ok, wp_bad, wp_some, wp_none, wp_liftif, wp_if, asB_b, wp_noex, add_ii, sub_ii, mul_ii, fdiv_ii, mod_ii, pow_ii, neg_i, cmp_ii, lt_ii, le_ii, gt_ii, ge_ii, le_cc, muls_ii, muls_si, ins_cs, iadd_ii, isub_ii, w_onone, w_osome, w_sl, sl_s, sl_t, s_aug, eq_ss, len_s, ix_s, add_ss, str_s, tuple_t, list_t, is_n, not_n, non_n, non_i, non_b, non_s, non_t, non_r, abs_i, max_ii, min_ii, int_i, int_b, gcd_ii, len_t, ix_t, eq_v, ne_v, eq_ii, eq_bb, eq_nn, eq_in, eq_ni, iv_n_list, iv_n_tuple, iv_n_bool, iv_n_str, iv_n_int, okt_n, iv_b_list, iv_b_tuple, iv_b_bool, iv_b_str, iv_b_int, okt_b, iv_i_list, iv_i_tuple, iv_i_bool, iv_i_str, iv_i_int, okt_i, iv_s_list, iv_s_tuple, iv_s_bool, iv_s_str, iv_s_int, okt_s, iv_t_list, iv_t_tuple, iv_t_bool, iv_t_str, iv_t_int, okt_t, iv_r_list, iv_r_tuple, iv_r_bool, iv_r_str, iv_r_int, tru_b, tru_i, tru_n, tru_t, Option.map_some, Option.map_none, List.map_cons, List.map_nil, List.length_cons, List.length_nil, List.set_cons_zero, List.set_cons_succ, List.cons_append, List.nil_append, List.replicate, Nat.reduceAdd, Nat.reduceSub, Nat.reduceLeDiff, true_and, and_true, decide_eq_true_eq, reduceIte, Bool.false_eq_true, Bool.not_true, Bool.not_false, decide_true, decide_false]
  rw [s_seq]
  try simp -dsimp only [at0, at1, at2, at3, at4, at5, at6, wp_fn, s_nil, s_brk, s_cnt, s_expr, s_ret, s_retN, s_if, s_asn, s_par, s_asg, g_nm, g_nil, g_cons, g_tupT, g_subW, w_v0, w_vS, w_c, w_op, w_un, w_anil, w_acons, w_tup, w_lst, w_call, w_callU, w_isi, w_meth, w_tru, w_bool, w_notS, w_andS, w_orS, w_ifx, w_andV, w_orV, w_notV, w_chain, wp_ok, wp_bad, wp_some, wp_none, wp_liftif, wp_if, asB_b, wp_noex, add_ii, sub_ii, mul_ii, fdiv_ii, mod_ii, pow_ii, neg_i, cmp_ii, lt_ii, le_ii, gt_ii, ge_ii, le_cc, muls_ii, muls_si, ins_cs, iadd_ii, isub_ii, w_onone, w_osome, w_sl, sl_s, sl_t, s_aug, eq_ss, len_s, ix_s, add_ss, str_s, tuple_t, list_t, is_n, not_n, non_n, non_i, non_b, non_s, non_t, non_r, abs_i, max_ii, min_ii, int_i, int_b, gcd_ii, len_t, ix_t, eq_v, ne_v, eq_ii, eq_bb, eq_nn, eq_in, eq_ni, iv_n_list, iv_n_tuple, iv_n_bool, iv_n_str, iv_n_int, okt_n, iv_b_list, iv_b_tuple, iv_b_bool, iv_b_str, iv_b_int, okt_b, iv_i_list, iv_i_tuple, iv_i_bool, iv_i_str, iv_i_int, okt_i, iv_s_list, iv_s_tuple, iv_s_bool, iv_s_str, iv_s_int, okt_s, iv_t_list, iv_t_tuple, iv_t_bool, iv_t_str, iv_t_int, okt_t, iv_r_list, iv_r_tuple, iv_r_bool, iv_r_str, iv_r_int, tru_b, tru_i, tru_n, tru_t, Option.map_some, Option.map_none, List.map_cons, List.map_nil, List.length_cons, List.length_nil, List.set_cons_zero, List.set_cons_succ, List.cons_append, List.nil_append, List.replicate, Nat.reduceAdd, Nat.reduceSub, Nat.reduceLeDiff, true_and, and_true, decide_eq_true_eq, reduceIte, Bool.false_eq_true, Bool.not_true, Bool.not_false, decide_true, decide_false]
  rw [s_seq]
  refine s_for2W ?_
  try simp -dsimp only [at0, at1, at2, at3, at4, at5, at6, wp_fn, s_nil, s_brk, s_cnt, s_expr, s_ret, s_retN, s_if, s_asn, s_par, s_asg, g_nm, g_nil, g_cons, g_tupT, g_subW, w_v0, w_vS, w_c, w_op, w_un, w_anil, w_acons, w_tup, w_lst, w_call, w_callU, w_isi, w_meth, w_tru, w_bool, w_notS, w_andS, w_orS, w_ifx, w_andV, w_orV, w_notV, w_chain, wp_ok, wp_bad, wp_some, wp_none, wp_liftif, wp_if, asB_b, wp_noex, add_ii, sub_ii, mul_ii, fdiv_ii, mod_ii, pow_ii, neg_i, cmp_ii, lt_ii, le_ii, gt_ii, ge_ii, le_cc, muls_ii, muls_si, ins_cs, iadd_ii, isub_ii, w_onone, w_osome, w_sl, sl_s, sl_t, s_aug, eq_ss, len_s, ix_s, add_ss, str_s, tuple_t, list_t, is_n, not_n, non_n, non_i, non_b, non_s, non_t, non_r, abs_i, max_ii, min_ii, int_i, int_b, gcd_ii, len_t, ix_t, eq_v, ne_v, eq_ii, eq_bb, eq_nn, eq_in, eq_ni, iv_n_list, iv_n_tuple, iv_n_bool, iv_n_str, iv_n_int, okt_n, iv_b_list, iv_b_tuple, iv_b_bool, iv_b_str, iv_b_int, okt_b, iv_i_list, iv_i_tuple, iv_i_bool, iv_i_str, iv_i_int, okt_i, iv_s_list, iv_s_tuple, iv_s_bool, iv_s_str, iv_s_int, okt_s, iv_t_list, iv_t_tuple, iv_t_bool, iv_t_str, iv_t_int, okt_t, iv_r_list, iv_r_tuple, iv_r_bool, iv_r_str, iv_r_int, tru_b, tru_i, tru_n, tru_t, Option.map_some, Option.map_none, List.map_cons, List.map_nil, List.length_cons, List.length_nil, List.set_cons_zero, List.set_cons_succ, List.cons_append, List.nil_append, List.replicate, Nat.reduceAdd, Nat.reduceSub, Nat.reduceLeDiff, true_and, and_true, decide_eq_true_eq, reduceIte, Bool.false_eq_true, Bool.not_true, Bool.not_false, decide_true, decide_false]
  refine (cell_ok (seq_of_frz (get_old h)) (by decide)).mono ?_
  rintro _ _ ⟨rfl, rfl⟩
  generalize ns.getD (Int.toNat 9) 0 = c9
  try simp -dsimp only [at0, at1, at2, at3, at4, at5, at6, wp_fn, s_nil, s_brk, s_cnt, s_expr, s_ret, s_retN, s_if, s_asn, s_par, s_asg, g_nm, g_nil, g_cons, g_tupT, g_subW, w_v0, w_vS, w_c, w_op, w_un, w_anil, w_acons, w_tup, w_lst, w_call, w_callU, w_isi, w_meth, w_tru, w_bool, w_notS, w_andS, w_orS, w_ifx, w_andV, w_orV, w_notV, w_chain, wp_ok, wp_bad, wp_some, wp_none, wp_liftif, wp_if, asB_b, wp_noex, add_ii, sub_ii, mul_ii, fdiv_ii, mod_ii, pow_ii, neg_i, cmp_ii, lt_ii, le_ii, gt_ii, ge_ii, le_cc, muls_ii, muls_si, ins_cs, iadd_ii, isub_ii, w_onone, w_osome, w_sl, sl_s, sl_t, s_aug, eq_ss, len_s, ix_s, add_ss, str_s, tuple_t, list_t, is_n, not_n, non_n, non_i, non_b, non_s, non_t, non_r, abs_i, max_ii, min_ii, int_i, int_b, gcd_ii, len_t, ix_t, eq_v, ne_v, eq_ii, eq_bb, eq_nn, eq_in, eq_ni, iv_n_list, iv_n_tuple, iv_n_bool, iv_n_str, iv_n_int, okt_n, iv_b_list, iv_b_tuple, iv_b_bool, iv_b_str, iv_b_int, okt_b, iv_i_list, iv_i_tuple, iv_i_bool, iv_i_str, iv_i_int, okt_i, iv_s_list, iv_s_tuple, iv_s_bool, iv_s_str, iv_s_int, okt_s, iv_t_list, iv_t_tuple, iv_t_bool, iv_t_str, iv_t_int, okt_t, iv_r_list, iv_r_tuple, iv_r_bool, iv_r_str, iv_r_int, tru_b, tru_i, tru_n, tru_t, Option.map_some, Option.map_none, List.map_cons, List.map_nil, List.length_cons, List.length_nil, List.set_cons_zero, List.set_cons_succ, List.cons_append, List.nil_append, List.replicate, Nat.reduceAdd, Nat.reduceSub, Nat.reduceLeDiff, true_and, and_true, decide_eq_true_eq, reduceIte, Bool.false_eq_true, Bool.not_true, Bool.not_false, decide_true, decide_false]
  rw [if_pos (by decide), fmod_pos (by decide)]
  try simp -dsimp only [at0, at1, at2, at3, at4, at5, at6, wp_fn, s_nil, s_brk, s_cnt, s_expr, s_ret, s_retN, s_if, s_asn, s_par, s_asg, g_nm, g_nil, g_cons, g_tupT, g_subW, w_v0, w_vS, w_c, w_op, w_un, w_anil, w_acons, w_tup, w_lst, w_call, w_callU, w_isi, w_meth, w_tru, w_bool, w_notS, w_andS, w_orS, w_ifx, w_andV, w_orV, w_notV, w_chain, wp_ok, wp_bad, wp_some, wp_none, wp_liftif, wp_if, asB_b, wp_noex, add_ii, sub_ii, mul_ii, fdiv_ii, mod_ii, pow_ii, neg_i, cmp_ii, lt_ii, le_ii, gt_ii, ge_ii, le_cc, muls_ii, muls_si, ins_cs, iadd_ii, isub_ii, w_onone, w_osome, w_sl, sl_s, sl_t, s_aug, eq_ss, len_s, ix_s, add_ss, str_s, tuple_t, list_t, is_n, not_n, non_n, non_i, non_b, non_s, non_t, non_r, abs_i, max_ii, min_ii, int_i, int_b, gcd_ii, len_t, ix_t, eq_v, ne_v, eq_ii, eq_bb, eq_nn, eq_in, eq_ni, iv_n_list, iv_n_tuple, iv_n_bool, iv_n_str, iv_n_int, okt_n, iv_b_list, iv_b_tuple, iv_b_bool, iv_b_str, iv_b_int, okt_b, iv_i_list, iv_i_tuple, iv_i_bool, iv_i_str, iv_i_int, okt_i, iv_s_list, iv_s_tuple, iv_s_bool, iv_s_str, iv_s_int, okt_s, iv_t_list, iv_t_tuple, iv_t_bool, iv_t_str, iv_t_int, okt_t, iv_r_list, iv_r_tuple, iv_r_bool, iv_r_str, iv_r_int, tru_b, tru_i, tru_n, tru_t, Option.map_some, Option.map_none, List.map_cons, List.map_nil, List.length_cons, List.length_nil, List.set_cons_zero, List.set_cons_succ, List.cons_append, List.nil_append, List.replicate, Nat.reduceAdd, Nat.reduceSub, Nat.reduceLeDiff, true_and, and_true, decide_eq_true_eq, reduceIte, Bool.false_eq_true, Bool.not_true, Bool.not_false, decide_true, decide_false]
  have h9 := Int.emod_nonneg c9 (b := 4) (by decide)
  have h9' := Int.emod_lt_of_pos c9 (b := 4) (by decide)
  generalize c9 % 4 = q at *
  refine ⟨_, _, rfl, rfl, ⟨by omega, by omega, by omega, by omega⟩, fun j l m' => ∃ (xs : List PV) (bs : List (List Int)) (x2 x3 x4 x5 : Option PV), l = [some (.ref r), some (.ref m.length), x2, x3, x4, x5] ∧ m'[m.length]? = some (.lst xs) ∧ Bds m' m.length xs bs ∧ bs.length = j ∧ Gr m m', ⟨[], [], _, _, _, _, rfl, get_new, ⟨rfl, fun i x hx => by cases hx⟩, rfl, Gr.one⟩, ?_, ?_⟩
  · rintro j l m' hj ⟨xs, bs, x2, x3, x4, x5, rfl, P, hB, hl, G⟩
    have hr' := G.get _ _ h
    have hxl := hB.len
    unfold law_bodies_l1
    try simp -dsimp only [at0, at1, at2, at3, at4, at5, at6, wp_fn, s_nil, s_brk, s_cnt, s_expr, s_ret, s_retN, s_if, s_asn, s_par, s_asg, g_nm, g_nil, g_cons, g_tupT, g_subW, w_v0, w_vS, w_c, w_op, w_un, w_anil, w_acons, w_tup, w_lst, w_call, w_callU, w_isi, w_meth, w_tru, w_bool, w_notS, w_andS, w_orS, w_ifx, w_andV, w_orV, w_notV, w_chain, wp_ok, wp_bad, wp_some, wp_none, wp_liftif, wp_if, asB_b, wp_noex, add_ii, sub_ii, mul_ii, fdiv_ii, mod_ii, pow_ii, neg_i, cmp_ii, lt_ii, le_ii, gt_ii, ge_ii, le_cc, muls_ii, muls_si, ins_cs, iadd_ii, isub_ii, w_onone, w_osome, w_sl, sl_s, sl_t, s_aug, eq_ss, len_s, ix_s, add_ss, str_s, tuple_t, list_t, is_n, not_n, non_n, non_i, non_b, non_s, non_t, non_r, abs_i, max_ii, min_ii, int_i, int_b, gcd_ii, len_t, ix_t, eq_v, ne_v, eq_ii, eq_bb, eq_nn, eq_in, eq_ni, iv_n_list, iv_n_tuple, iv_n_bool, iv_n_str, iv_n_int, okt_n, iv_b_list, iv_b_tuple, iv_b_bool, iv_b_str, iv_b_int, okt_b, iv_i_list, iv_i_tuple, iv_i_bool, iv_i_str, iv_i_int, okt_i, iv_s_list, iv_s_tuple, iv_s_bool, iv_s_str, iv_s_int, okt_s, iv_t_list, iv_t_tuple, iv_t_bool, iv_t_str, iv_t_int, okt_t, iv_r_list, iv_r_tuple, iv_r_bool, iv_r_str, iv_r_int, tru_b, tru_i, tru_n, tru_t, Option.map_some, Option.map_none, List.map_cons, List.map_nil, List.length_cons, List.length_nil, List.set_cons_zero, List.set_cons_succ, List.cons_append, List.nil_append, List.replicate, Nat.reduceAdd, Nat.reduceSub, Nat.reduceLeDiff, true_and, and_true, decide_eq_true_eq, reduceIte, Bool.false_eq_true, Bool.not_true, Bool.not_false, decide_true, decide_false]
    rw [s_seq]
    try simp -dsimp only [at0, at1, at2, at3, at4, at5, at6, wp_fn, s_nil, s_brk, s_cnt, s_expr, s_ret, s_retN, s_if, s_asn, s_par, s_asg, g_nm, g_nil, g_cons, g_tupT, g_subW, w_v0, w_vS, w_c, w_op, w_un, w_anil, w_acons, w_tup, w_lst, w_call, w_callU, w_isi, w_meth, w_tru, w_bool, w_notS, w_andS, w_orS, w_ifx, w_andV, w_orV, w_notV, w_chain, wp_ok, wp_bad, wp_some, wp_none, wp_liftif, wp_if, asB_b, wp_noex, add_ii, sub_ii, mul_ii, fdiv_ii, mod_ii, pow_ii, neg_i, cmp_ii, lt_ii, le_ii, gt_ii, ge_ii, le_cc, muls_ii, muls_si, ins_cs, iadd_ii, isub_ii, w_onone, w_osome, w_sl, sl_s, sl_t, s_aug, eq_ss, len_s, ix_s, add_ss, str_s, tuple_t, list_t, is_n, not_n, non_n, non_i, non_b, non_s, non_t, non_r, abs_i, max_ii, min_ii, int_i, int_b, gcd_ii, len_t, ix_t, eq_v, ne_v, eq_ii, eq_bb, eq_nn, eq_in, eq_ni, iv_n_list, iv_n_tuple, iv_n_bool, iv_n_str, iv_n_int, okt_n, iv_b_list, iv_b_tuple, iv_b_bool, iv_b_str, iv_b_int, okt_b, iv_i_list, iv_i_tuple, iv_i_bool, iv_i_str, iv_i_int, okt_i, iv_s_list, iv_s_tuple, iv_s_bool, iv_s_str, iv_s_int, okt_s, iv_t_list, iv_t_tuple, iv_t_bool, iv_t_str, iv_t_int, okt_t, iv_r_list, iv_r_tuple, iv_r_bool, iv_r_str, iv_r_int, tru_b, tru_i, tru_n, tru_t, Option.map_some, Option.map_none, List.map_cons, List.map_nil, List.length_cons, List.length_nil, List.set_cons_zero, List.set_cons_succ, List.cons_append, List.nil_append, List.replicate, Nat.reduceAdd, Nat.reduceSub, Nat.reduceLeDiff, true_and, and_true, decide_eq_true_eq, reduceIte, Bool.false_eq_true, Bool.not_true, Bool.not_false, decide_true, decide_false]
    refine (cell_ok (seq_of_frz hr') (by omega)).mono ?_
    rintro _ m' ⟨rfl, rfl⟩
    generalize ns.getD _ 0 = c
    try simp -dsimp only [at0, at1, at2, at3, at4, at5, at6, wp_fn, s_nil, s_brk, s_cnt, s_expr, s_ret, s_retN, s_if, s_asn, s_par, s_asg, g_nm, g_nil, g_cons, g_tupT, g_subW, w_v0, w_vS, w_c, w_op, w_un, w_anil, w_acons, w_tup, w_lst, w_call, w_callU, w_isi, w_meth, w_tru, w_bool, w_notS, w_andS, w_orS, w_ifx, w_andV, w_orV, w_notV, w_chain, wp_ok, wp_bad, wp_some, wp_none, wp_liftif, wp_if, asB_b, wp_noex, add_ii, sub_ii, mul_ii, fdiv_ii, mod_ii, pow_ii, neg_i, cmp_ii, lt_ii, le_ii, gt_ii, ge_ii, le_cc, muls_ii, muls_si, ins_cs, iadd_ii, isub_ii, w_onone, w_osome, w_sl, sl_s, sl_t, s_aug, eq_ss, len_s, ix_s, add_ss, str_s, tuple_t, list_t, is_n, not_n, non_n, non_i, non_b, non_s, non_t, non_r, abs_i, max_ii, min_ii, int_i, int_b, gcd_ii, len_t, ix_t, eq_v, ne_v, eq_ii, eq_bb, eq_nn, eq_in, eq_ni, iv_n_list, iv_n_tuple, iv_n_bool, iv_n_str, iv_n_int, okt_n, iv_b_list, iv_b_tuple, iv_b_bool, iv_b_str, iv_b_int, okt_b, iv_i_list, iv_i_tuple, iv_i_bool, iv_i_str, iv_i_int, okt_i, iv_s_list, iv_s_tuple, iv_s_bool, iv_s_str, iv_s_int, okt_s, iv_t_list, iv_t_tuple, iv_t_bool, iv_t_str, iv_t_int, okt_t, iv_r_list, iv_r_tuple, iv_r_bool, iv_r_str, iv_r_int, tru_b, tru_i, tru_n, tru_t, Option.map_some, Option.map_none, List.map_cons, List.map_nil, List.length_cons, List.length_nil, List.set_cons_zero, List.set_cons_succ, List.cons_append, List.nil_append, List.replicate, Nat.reduceAdd, Nat.reduceSub, Nat.reduceLeDiff, true_and, and_true, decide_eq_true_eq, reduceIte, Bool.false_eq_true, Bool.not_true, Bool.not_false, decide_true, decide_false]
    rw [s_seq]
    try simp -dsimp only [at0, at1, at2, at3, at4, at5, at6, wp_fn, s_nil, s_brk, s_cnt, s_expr, s_ret, s_retN, s_if, s_asn, s_par, s_asg, g_nm, g_nil, g_cons, g_tupT, g_subW, w_v0, w_vS, w_c, w_op, w_un, w_anil, w_acons, w_tup, w_lst, w_call, w_callU, w_isi, w_meth, w_tru, w_bool, w_notS, w_andS, w_orS, w_ifx, w_andV, w_orV, w_notV, w_chain, wp_ok, wp_bad, wp_some, wp_none, wp_liftif, wp_if, asB_b, wp_noex, add_ii, sub_ii, mul_ii, fdiv_ii, mod_ii, pow_ii, neg_i, cmp_ii, lt_ii, le_ii, gt_ii, ge_ii, le_cc, muls_ii, muls_si, ins_cs, iadd_ii, isub_ii, w_onone, w_osome, w_sl, sl_s, sl_t, s_aug, eq_ss, len_s, ix_s, add_ss, str_s, tuple_t, list_t, is_n, not_n, non_n, non_i, non_b, non_s, non_t, non_r, abs_i, max_ii, min_ii, int_i, int_b, gcd_ii, len_t, ix_t, eq_v, ne_v, eq_ii, eq_bb, eq_nn, eq_in, eq_ni, iv_n_list, iv_n_tuple, iv_n_bool, iv_n_str, iv_n_int, okt_n, iv_b_list, iv_b_tuple, iv_b_bool, iv_b_str, iv_b_int, okt_b, iv_i_list, iv_i_tuple, iv_i_bool, iv_i_str, iv_i_int, okt_i, iv_s_list, iv_s_tuple, iv_s_bool, iv_s_str, iv_s_int, okt_s, iv_t_list, iv_t_tuple, iv_t_bool, iv_t_str, iv_t_int, okt_t, iv_r_list, iv_r_tuple, iv_r_bool, iv_r_str, iv_r_int, tru_b, tru_i, tru_n, tru_t, Option.map_some, Option.map_none, List.map_cons, List.map_nil, List.length_cons, List.length_nil, List.set_cons_zero, List.set_cons_succ, List.cons_append, List.nil_append, List.replicate, Nat.reduceAdd, Nat.reduceSub, Nat.reduceLeDiff, true_and, and_true, decide_eq_true_eq, reduceIte, Bool.false_eq_true, Bool.not_true, Bool.not_false, decide_true, decide_false]
    refine lc_mapL (f := PV.int) (g := fun d => .int (d % 256)) (by simp) ?_
    try simp -dsimp only [at0, at1, at2, at3, at4, at5, at6, wp_fn, s_nil, s_brk, s_cnt, s_expr, s_ret, s_retN, s_if, s_asn, s_par, s_asg, g_nm, g_nil, g_cons, g_tupT, g_subW, w_v0, w_vS, w_c, w_op, w_un, w_anil, w_acons, w_tup, w_lst, w_call, w_callU, w_isi, w_meth, w_tru, w_bool, w_notS, w_andS, w_orS, w_ifx, w_andV, w_orV, w_notV, w_chain, wp_ok, wp_bad, wp_some, wp_none, wp_liftif, wp_if, asB_b, wp_noex, add_ii, sub_ii, mul_ii, fdiv_ii, mod_ii, pow_ii, neg_i, cmp_ii, lt_ii, le_ii, gt_ii, ge_ii, le_cc, muls_ii, muls_si, ins_cs, iadd_ii, isub_ii, w_onone, w_osome, w_sl, sl_s, sl_t, s_aug, eq_ss, len_s, ix_s, add_ss, str_s, tuple_t, list_t, is_n, not_n, non_n, non_i, non_b, non_s, non_t, non_r, abs_i, max_ii, min_ii, int_i, int_b, gcd_ii, len_t, ix_t, eq_v, ne_v, eq_ii, eq_bb, eq_nn, eq_in, eq_ni, iv_n_list, iv_n_tuple, iv_n_bool, iv_n_str, iv_n_int, okt_n, iv_b_list, iv_b_tuple, iv_b_bool, iv_b_str, iv_b_int, okt_b, iv_i_list, iv_i_tuple, iv_i_bool, iv_i_str, iv_i_int, okt_i, iv_s_list, iv_s_tuple, iv_s_bool, iv_s_str, iv_s_int, okt_s, iv_t_list, iv_t_tuple, iv_t_bool, iv_t_str, iv_t_int, okt_t, iv_r_list, iv_r_tuple, iv_r_bool, iv_r_str, iv_r_int, tru_b, tru_i, tru_n, tru_t, Option.map_some, Option.map_none, List.map_cons, List.map_nil, List.length_cons, List.length_nil, List.set_cons_zero, List.set_cons_succ, List.cons_append, List.nil_append, List.replicate, Nat.reduceAdd, Nat.reduceSub, Nat.reduceLeDiff, true_and, and_true, decide_eq_true_eq, reduceIte, Bool.false_eq_true, Bool.not_true, Bool.not_false, decide_true, decide_false]
    rw [if_pos (by decide), fmod_pos (by decide)]
    try simp -dsimp only [at0, at1, at2, at3, at4, at5, at6, wp_fn, s_nil, s_brk, s_cnt, s_expr, s_ret, s_retN, s_if, s_asn, s_par, s_asg, g_nm, g_nil, g_cons, g_tupT, g_subW, w_v0, w_vS, w_c, w_op, w_un, w_anil, w_acons, w_tup, w_lst, w_call, w_callU, w_isi, w_meth, w_tru, w_bool, w_notS, w_andS, w_orS, w_ifx, w_andV, w_orV, w_notV, w_chain, wp_ok, wp_bad, wp_some, wp_none, wp_liftif, wp_if, asB_b, wp_noex, add_ii, sub_ii, mul_ii, fdiv_ii, mod_ii, pow_ii, neg_i, cmp_ii, lt_ii, le_ii, gt_ii, ge_ii, le_cc, muls_ii, muls_si, ins_cs, iadd_ii, isub_ii, w_onone, w_osome, w_sl, sl_s, sl_t, s_aug, eq_ss, len_s, ix_s, add_ss, str_s, tuple_t, list_t, is_n, not_n, non_n, non_i, non_b, non_s, non_t, non_r, abs_i, max_ii, min_ii, int_i, int_b, gcd_ii, len_t, ix_t, eq_v, ne_v, eq_ii, eq_bb, eq_nn, eq_in, eq_ni, iv_n_list, iv_n_tuple, iv_n_bool, iv_n_str, iv_n_int, okt_n, iv_b_list, iv_b_tuple, iv_b_bool, iv_b_str, iv_b_int, okt_b, iv_i_list, iv_i_tuple, iv_i_bool, iv_i_str, iv_i_int, okt_i, iv_s_list, iv_s_tuple, iv_s_bool, iv_s_str, iv_s_int, okt_s, iv_t_list, iv_t_tuple, iv_t_bool, iv_t_str, iv_t_int, okt_t, iv_r_list, iv_r_tuple, iv_r_bool, iv_r_str, iv_r_int, tru_b, tru_i, tru_n, tru_t, Option.map_some, Option.map_none, List.map_cons, List.map_nil, List.length_cons, List.length_nil, List.set_cons_zero, List.set_cons_succ, List.cons_append, List.nil_append, List.replicate, Nat.reduceAdd, Nat.reduceSub, Nat.reduceLeDiff, true_and, and_true, decide_eq_true_eq, reduceIte, Bool.false_eq_true, Bool.not_true, Bool.not_false, decide_true, decide_false]
    obtain ⟨w, hw⟩ := Int.eq_ofNat_of_zero_le (show 0 ≤ c % 15 by omega)
    rw [hw]
    refine (digits_okW (w := w) (by omega) (by omega) (by omega)).mono ?_
    rintro _ _ ⟨ds, rfl, rfl, hd, hdl⟩
    refine ⟨_, ds, rfl, get_new, by omega, fun x hx m2 => ?_, fun m2 G2 A2 => ?_⟩
    · try simp -dsimp only [at0, at1, at2, at3, at4, at5, at6, wp_fn, s_nil, s_brk, s_cnt, s_expr, s_ret, s_retN, s_if, s_asn, s_par, s_asg, g_nm, g_nil, g_cons, g_tupT, g_subW, w_v0, w_vS, w_c, w_op, w_un, w_anil, w_acons, w_tup, w_lst, w_call, w_callU, w_isi, w_meth, w_tru, w_bool, w_notS, w_andS, w_orS, w_ifx, w_andV, w_orV, w_notV, w_chain, wp_ok, wp_bad, wp_some, wp_none, wp_liftif, wp_if, asB_b, wp_noex, add_ii, sub_ii, mul_ii, fdiv_ii, mod_ii, pow_ii, neg_i, cmp_ii, lt_ii, le_ii, gt_ii, ge_ii, le_cc, muls_ii, muls_si, ins_cs, iadd_ii, isub_ii, w_onone, w_osome, w_sl, sl_s, sl_t, s_aug, eq_ss, len_s, ix_s, add_ss, str_s, tuple_t, list_t, is_n, not_n, non_n, non_i, non_b, non_s, non_t, non_r, abs_i, max_ii, min_ii, int_i, int_b, gcd_ii, len_t, ix_t, eq_v, ne_v, eq_ii, eq_bb, eq_nn, eq_in, eq_ni, iv_n_list, iv_n_tuple, iv_n_bool, iv_n_str, iv_n_int, okt_n, iv_b_list, iv_b_tuple, iv_b_bool, iv_b_str, iv_b_int, okt_b, iv_i_list, iv_i_tuple, iv_i_bool, iv_i_str, iv_i_int, okt_i, iv_s_list, iv_s_tuple, iv_s_bool, iv_s_str, iv_s_int, okt_s, iv_t_list, iv_t_tuple, iv_t_bool, iv_t_str, iv_t_int, okt_t, iv_r_list, iv_r_tuple, iv_r_bool, iv_r_str, iv_r_int, tru_b, tru_i, tru_n, tru_t, Option.map_some, Option.map_none, List.map_cons, List.map_nil, List.length_cons, List.length_nil, List.set_cons_zero, List.set_cons_succ, List.cons_append, List.nil_append, List.replicate, Nat.reduceAdd, Nat.reduceSub, Nat.reduceLeDiff, true_and, and_true, decide_eq_true_eq, reduceIte, Bool.false_eq_true, Bool.not_true, Bool.not_false, decide_true, decide_false]
      rw [if_pos (by decide), fmod_pos (by decide)]
      try simp -dsimp only [at0, at1, at2, at3, at4, at5, at6, wp_fn, s_nil, s_brk, s_cnt, s_expr, s_ret, s_retN, s_if, s_asn, s_par, s_asg, g_nm, g_nil, g_cons, g_tupT, g_subW, w_v0, w_vS, w_c, w_op, w_un, w_anil, w_acons, w_tup, w_lst, w_call, w_callU, w_isi, w_meth, w_tru, w_bool, w_notS, w_andS, w_orS, w_ifx, w_andV, w_orV, w_notV, w_chain, wp_ok, wp_bad, wp_some, wp_none, wp_liftif, wp_if, asB_b, wp_noex, add_ii, sub_ii, mul_ii, fdiv_ii, mod_ii, pow_ii, neg_i, cmp_ii, lt_ii, le_ii, gt_ii, ge_ii, le_cc, muls_ii, muls_si, ins_cs, iadd_ii, isub_ii, w_onone, w_osome, w_sl, sl_s, sl_t, s_aug, eq_ss, len_s, ix_s, add_ss, str_s, tuple_t, list_t, is_n, not_n, non_n, non_i, non_b, non_s, non_t, non_r, abs_i, max_ii, min_ii, int_i, int_b, gcd_ii, len_t, ix_t, eq_v, ne_v, eq_ii, eq_bb, eq_nn, eq_in, eq_ni, iv_n_list, iv_n_tuple, iv_n_bool, iv_n_str, iv_n_int, okt_n, iv_b_list, iv_b_tuple, iv_b_bool, iv_b_str, iv_b_int, okt_b, iv_i_list, iv_i_tuple, iv_i_bool, iv_i_str, iv_i_int, okt_i, iv_s_list, iv_s_tuple, iv_s_bool, iv_s_str, iv_s_int, okt_s, iv_t_list, iv_t_tuple, iv_t_bool, iv_t_str, iv_t_int, okt_t, iv_r_list, iv_r_tuple, iv_r_bool, iv_r_str, iv_r_int, tru_b, tru_i, tru_n, tru_t, Option.map_some, Option.map_none, List.map_cons, List.map_nil, List.length_cons, List.length_nil, List.set_cons_zero, List.set_cons_succ, List.cons_append, List.nil_append, List.replicate, Nat.reduceAdd, Nat.reduceSub, Nat.reduceLeDiff, true_and, and_true, decide_eq_true_eq, reduceIte, Bool.false_eq_true, Bool.not_true, Bool.not_false, decide_true, decide_false]
    have G1 := (Gr.one (m := m') (o := MO.lst (ds.map PV.int))).trans G2
    have P1 := G1.get _ _ P
    have B1 := hB.mono G1
    have GG := G.trans G1
    have hn := GG.len
    have hn2 : m.length < (m' ++ [MO.lst (ds.map PV.int)]).length := by have := G.len; simp; omega
    generalize (m' ++ [MO.lst (ds.map PV.int)]).length = bn at *
    try simp -dsimp only [at0, at1, at2, at3, at4, at5, at6, wp_fn, s_nil, s_brk, s_cnt, s_expr, s_ret, s_retN, s_if, s_asn, s_par, s_asg, g_nm, g_nil, g_cons, g_tupT, g_subW, w_v0, w_vS, w_c, w_op, w_un, w_anil, w_acons, w_tup, w_lst, w_call, w_callU, w_isi, w_meth, w_tru, w_bool, w_notS, w_andS, w_orS, w_ifx, w_andV, w_orV, w_notV, w_chain, wp_ok, wp_bad, wp_some, wp_none, wp_liftif, wp_if, asB_b, wp_noex, add_ii, sub_ii, mul_ii, fdiv_ii, mod_ii, pow_ii, neg_i, cmp_ii, lt_ii, le_ii, gt_ii, ge_ii, le_cc, muls_ii, muls_si, ins_cs, iadd_ii, isub_ii, w_onone, w_osome, w_sl, sl_s, sl_t, s_aug, eq_ss, len_s, ix_s, add_ss, str_s, tuple_t, list_t, is_n, not_n, non_n, non_i, non_b, non_s, non_t, non_r, abs_i, max_ii, min_ii, int_i, int_b, gcd_ii, len_t, ix_t, eq_v, ne_v, eq_ii, eq_bb, eq_nn, eq_in, eq_ni, iv_n_list, iv_n_tuple, iv_n_bool, iv_n_str, iv_n_int, okt_n, iv_b_list, iv_b_tuple, iv_b_bool, iv_b_str, iv_b_int, okt_b, iv_i_list, iv_i_tuple, iv_i_bool, iv_i_str, iv_i_int, okt_i, iv_s_list, iv_s_tuple, iv_s_bool, iv_s_str, iv_s_int, okt_s, iv_t_list, iv_t_tuple, iv_t_bool, iv_t_str, iv_t_int, okt_t, iv_r_list, iv_r_tuple, iv_r_bool, iv_r_str, iv_r_int, tru_b, tru_i, tru_n, tru_t, Option.map_some, Option.map_none, List.map_cons, List.map_nil, List.length_cons, List.length_nil, List.set_cons_zero, List.set_cons_succ, List.cons_append, List.nil_append, List.replicate, Nat.reduceAdd, Nat.reduceSub, Nat.reduceLeDiff, true_and, and_true, decide_eq_true_eq, reduceIte, Bool.false_eq_true, Bool.not_true, Bool.not_false, decide_true, decide_false]
    refine ⟨isLst_r P1, ?_⟩
    rw [if_pos ⟨by decide, big_of (by decide)⟩, if_pos (by decide), fdiv_pos (by decide), fmod_pos (by decide)]
    obtain ⟨u, eu, hu⟩ : ∃ u : Int, ixv (.ref m2.length) (.int (c / 15 % 3)) (m2 ++ [MO.lst [.int 1, .int 1, .int 12]]) = some (.int u, m2 ++ [MO.lst [.int 1, .int 1, .int 12]]) ∧ (u = 1 ∨ u = 12) := by
      rcases (by omega : c / 15 % 3 = 0 ∨ c / 15 % 3 = 1 ∨ c / 15 % 3 = 2) with e | e | e
      · exact ⟨1, by rw [e, ix_r (seq_of_lst get_new), at0]; rfl, .inl rfl⟩
      · exact ⟨1, by rw [e, ix_r (seq_of_lst get_new), at1]; rfl, .inl rfl⟩
      · exact ⟨12, by rw [e, ix_r (seq_of_lst get_new), at2]; rfl, .inr rfl⟩
    rw [eu]
    try simp -dsimp only [at0, at1, at2, at3, at4, at5, at6, wp_fn, s_nil, s_brk, s_cnt, s_expr, s_ret, s_retN, s_if, s_asn, s_par, s_asg, g_nm, g_nil, g_cons, g_tupT, g_subW, w_v0, w_vS, w_c, w_op, w_un, w_anil, w_acons, w_tup, w_lst, w_call, w_callU, w_isi, w_meth, w_tru, w_bool, w_notS, w_andS, w_orS, w_ifx, w_andV, w_orV, w_notV, w_chain, wp_ok, wp_bad, wp_some, wp_none, wp_liftif, wp_if, asB_b, wp_noex, add_ii, sub_ii, mul_ii, fdiv_ii, mod_ii, pow_ii, neg_i, cmp_ii, lt_ii, le_ii, gt_ii, ge_ii, le_cc, muls_ii, muls_si, ins_cs, iadd_ii, isub_ii, w_onone, w_osome, w_sl, sl_s, sl_t, s_aug, eq_ss, len_s, ix_s, add_ss, str_s, tuple_t, list_t, is_n, not_n, non_n, non_i, non_b, non_s, non_t, non_r, abs_i, max_ii, min_ii, int_i, int_b, gcd_ii, len_t, ix_t, eq_v, ne_v, eq_ii, eq_bb, eq_nn, eq_in, eq_ni, iv_n_list, iv_n_tuple, iv_n_bool, iv_n_str, iv_n_int, okt_n, iv_b_list, iv_b_tuple, iv_b_bool, iv_b_str, iv_b_int, okt_b, iv_i_list, iv_i_tuple, iv_i_bool, iv_i_str, iv_i_int, okt_i, iv_s_list, iv_s_tuple, iv_s_bool, iv_s_str, iv_s_int, okt_s, iv_t_list, iv_t_tuple, iv_t_bool, iv_t_str, iv_t_int, okt_t, iv_r_list, iv_r_tuple, iv_r_bool, iv_r_str, iv_r_int, tru_b, tru_i, tru_n, tru_t, Option.map_some, Option.map_none, List.map_cons, List.map_nil, List.length_cons, List.length_nil, List.set_cons_zero, List.set_cons_succ, List.cons_append, List.nil_append, List.replicate, Nat.reduceAdd, Nat.reduceSub, Nat.reduceLeDiff, true_and, and_true, decide_eq_true_eq, reduceIte, Bool.false_eq_true, Bool.not_true, Bool.not_false, decide_true, decide_false]
    rw [mul_r (lst_of (get_old A2)) (by omega) (by omega) (by rw [List.length_map]; omega)]
    try simp -dsimp only [at0, at1, at2, at3, at4, at5, at6, wp_fn, s_nil, s_brk, s_cnt, s_expr, s_ret, s_retN, s_if, s_asn, s_par, s_asg, g_nm, g_nil, g_cons, g_tupT, g_subW, w_v0, w_vS, w_c, w_op, w_un, w_anil, w_acons, w_tup, w_lst, w_call, w_callU, w_isi, w_meth, w_tru, w_bool, w_notS, w_andS, w_orS, w_ifx, w_andV, w_orV, w_notV, w_chain, wp_ok, wp_bad, wp_some, wp_none, wp_liftif, wp_if, asB_b, wp_noex, add_ii, sub_ii, mul_ii, fdiv_ii, mod_ii, pow_ii, neg_i, cmp_ii, lt_ii, le_ii, gt_ii, ge_ii, le_cc, muls_ii, muls_si, ins_cs, iadd_ii, isub_ii, w_onone, w_osome, w_sl, sl_s, sl_t, s_aug, eq_ss, len_s, ix_s, add_ss, str_s, tuple_t, list_t, is_n, not_n, non_n, non_i, non_b, non_s, non_t, non_r, abs_i, max_ii, min_ii, int_i, int_b, gcd_ii, len_t, ix_t, eq_v, ne_v, eq_ii, eq_bb, eq_nn, eq_in, eq_ni, iv_n_list, iv_n_tuple, iv_n_bool, iv_n_str, iv_n_int, okt_n, iv_b_list, iv_b_tuple, iv_b_bool, iv_b_str, iv_b_int, okt_b, iv_i_list, iv_i_tuple, iv_i_bool, iv_i_str, iv_i_int, okt_i, iv_s_list, iv_s_tuple, iv_s_bool, iv_s_str, iv_s_int, okt_s, iv_t_list, iv_t_tuple, iv_t_bool, iv_t_str, iv_t_int, okt_t, iv_r_list, iv_r_tuple, iv_r_bool, iv_r_str, iv_r_int, tru_b, tru_i, tru_n, tru_t, Option.map_some, Option.map_none, List.map_cons, List.map_nil, List.length_cons, List.length_nil, List.set_cons_zero, List.set_cons_succ, List.cons_append, List.nil_append, List.replicate, Nat.reduceAdd, Nat.reduceSub, Nat.reduceLeDiff, true_and, and_true, decide_eq_true_eq, reduceIte, Bool.false_eq_true, Bool.not_true, Bool.not_false, decide_true, decide_false]
    have eF : (List.replicate u.toNat (ds.map fun d => PV.int (d % 256))).flatten = ((List.replicate u.toNat (ds.map fun d => d % 256)).flatten).map PV.int := by
      rw [List.map_flatten, List.map_replicate, List.map_map]
      rfl
    rw [eF]
    have hBy := byt_rep (ds := ds) (n := u.toNat) (by omega) (by omega)
    generalize (List.replicate u.toNat (ds.map fun d => d % 256)).flatten = b at *
    have P2 := get_old (o := MO.lst (b.map PV.int)) (get_old (o := MO.lst [PV.int 1, .int 1, .int 12]) P1)
    have N2 := get_new (m := m2 ++ [MO.lst [PV.int 1, .int 1, .int 12]]) (o := MO.lst (b.map PV.int))
    have B2 := (B1.mono ((Gr.one (o := MO.lst [PV.int 1, .int 1, .int 12])).push (MO.lst (b.map PV.int)))).snoc (by simp; omega) N2 hBy
    have G3 := (GG.push (MO.lst [PV.int 1, .int 1, .int 12])).push (MO.lst (b.map PV.int))
    generalize (m2 ++ [MO.lst [PV.int 1, .int 1, .int 12]]).length = kk at *
    generalize m2 ++ [MO.lst [PV.int 1, .int 1, .int 12]] ++ [MO.lst (b.map PV.int)] = m3 at *
    rw [append_r P2 (by omega)]
    try simp -dsimp only [at0, at1, at2, at3, at4, at5, at6, wp_fn, s_nil, s_brk, s_cnt, s_expr, s_ret, s_retN, s_if, s_asn, s_par, s_asg, g_nm, g_nil, g_cons, g_tupT, g_subW, w_v0, w_vS, w_c, w_op, w_un, w_anil, w_acons, w_tup, w_lst, w_call, w_callU, w_isi, w_meth, w_tru, w_bool, w_notS, w_andS, w_orS, w_ifx, w_andV, w_orV, w_notV, w_chain, wp_ok, wp_bad, wp_some, wp_none, wp_liftif, wp_if, asB_b, wp_noex, add_ii, sub_ii, mul_ii, fdiv_ii, mod_ii, pow_ii, neg_i, cmp_ii, lt_ii, le_ii, gt_ii, ge_ii, le_cc, muls_ii, muls_si, ins_cs, iadd_ii, isub_ii, w_onone, w_osome, w_sl, sl_s, sl_t, s_aug, eq_ss, len_s, ix_s, add_ss, str_s, tuple_t, list_t, is_n, not_n, non_n, non_i, non_b, non_s, non_t, non_r, abs_i, max_ii, min_ii, int_i, int_b, gcd_ii, len_t, ix_t, eq_v, ne_v, eq_ii, eq_bb, eq_nn, eq_in, eq_ni, iv_n_list, iv_n_tuple, iv_n_bool, iv_n_str, iv_n_int, okt_n, iv_b_list, iv_b_tuple, iv_b_bool, iv_b_str, iv_b_int, okt_b, iv_i_list, iv_i_tuple, iv_i_bool, iv_i_str, iv_i_int, okt_i, iv_s_list, iv_s_tuple, iv_s_bool, iv_s_str, iv_s_int, okt_s, iv_t_list, iv_t_tuple, iv_t_bool, iv_t_str, iv_t_int, okt_t, iv_r_list, iv_r_tuple, iv_r_bool, iv_r_str, iv_r_int, tru_b, tru_i, tru_n, tru_t, Option.map_some, Option.map_none, List.map_cons, List.map_nil, List.length_cons, List.length_nil, List.set_cons_zero, List.set_cons_succ, List.cons_append, List.nil_append, List.replicate, Nat.reduceAdd, Nat.reduceSub, Nat.reduceLeDiff, true_and, and_true, decide_eq_true_eq, reduceIte, Bool.false_eq_true, Bool.not_true, Bool.not_false, decide_true, decide_false]
    exact ⟨_, _, _, _, _, _, rfl, get_set_eq P2, B2.set, by simp; omega, G3.set (Nat.le_refl _)⟩
  · rintro l m' ⟨xs, bs, x2, x3, x4, x5, rfl, P, hB, hl, G⟩
    try simp -dsimp only [at0, at1, at2, at3, at4, at5, at6, wp_fn, s_nil, s_brk, s_cnt, s_expr, s_ret, s_retN, s_if, s_asn, s_par, s_asg, g_nm, g_nil, g_cons, g_tupT, g_subW, w_v0, w_vS, w_c, w_op, w_un, w_anil, w_acons, w_tup, w_lst, w_call, w_callU, w_isi, w_meth, w_tru, w_bool, w_notS, w_andS, w_orS, w_ifx, w_andV, w_orV, w_notV, w_chain, wp_ok, wp_bad, wp_some, wp_none, wp_liftif, wp_if, asB_b, wp_noex, add_ii, sub_ii, mul_ii, fdiv_ii, mod_ii, pow_ii, neg_i, cmp_ii, lt_ii, le_ii, gt_ii, ge_ii, le_cc, muls_ii, muls_si, ins_cs, iadd_ii, isub_ii, w_onone, w_osome, w_sl, sl_s, sl_t, s_aug, eq_ss, len_s, ix_s, add_ss, str_s, tuple_t, list_t, is_n, not_n, non_n, non_i, non_b, non_s, non_t, non_r, abs_i, max_ii, min_ii, int_i, int_b, gcd_ii, len_t, ix_t, eq_v, ne_v, eq_ii, eq_bb, eq_nn, eq_in, eq_ni, iv_n_list, iv_n_tuple, iv_n_bool, iv_n_str, iv_n_int, okt_n, iv_b_list, iv_b_tuple, iv_b_bool, iv_b_str, iv_b_int, okt_b, iv_i_list, iv_i_tuple, iv_i_bool, iv_i_str, iv_i_int, okt_i, iv_s_list, iv_s_tuple, iv_s_bool, iv_s_str, iv_s_int, okt_s, iv_t_list, iv_t_tuple, iv_t_bool, iv_t_str, iv_t_int, okt_t, iv_r_list, iv_r_tuple, iv_r_bool, iv_r_str, iv_r_int, tru_b, tru_i, tru_n, tru_t, Option.map_some, Option.map_none, List.map_cons, List.map_nil, List.length_cons, List.length_nil, List.set_cons_zero, List.set_cons_succ, List.cons_append, List.nil_append, List.replicate, Nat.reduceAdd, Nat.reduceSub, Nat.reduceLeDiff, true_and, and_true, decide_eq_true_eq, reduceIte, Bool.false_eq_true, Bool.not_true, Bool.not_false, decide_true, decide_false]
    exact ⟨xs, bs, P, hB, by omega, by omega, G⟩
/-! ### all records in a row -/
noncomputable def dataF (bs : List (List Int)) : List Int := (bs.map recF).flatten
theorem dataF_app {a b : List (List Int)} : dataF (a ++ b) = dataF a ++ dataF b := by unfold dataF; simp
theorem dataF_take {bs : List (List Int)} {j : Nat} {b : List Int} (h : bs[j]? = some b) : dataF (bs.take (j + 1)) = dataF (bs.take j) ++ recF b := by
  have : bs.take (j + 1) = bs.take j ++ [b] := by rw [List.take_succ, h]; rfl
  rw [this, dataF_app]
  unfold dataF
  simp
theorem dataF_split {bs : List (List Int)} {j : Nat} {b : List Int} (h : bs[j]? = some b) : (dataF bs).drop (dataF (bs.take j)).length = recF b ++ dataF (bs.drop (j + 1)) := by
  have e : dataF bs = dataF (bs.take j) ++ (recF b ++ dataF (bs.drop (j + 1))) := by
    rw [← List.append_assoc, ← dataF_take h, ← dataF_app, List.take_append_drop]
  rw [e, List.drop_left]
theorem dataF_len : ∀ {bs : List (List Int)}, (∀ b ∈ bs, Byt b) → (dataF bs).length ≤ 174 * bs.length
  | [], _ => Nat.le_refl _
  | b :: bs, h => by
    have h1 := dataF_len (bs := bs) fun b hb => h b (List.mem_cons_of_mem _ hb)
    have h2 := (recF_len (h b List.mem_cons_self)).1
    show ((recF b) ++ dataF bs).length ≤ _
    rw [List.length_append, List.length_cons]
    omega
theorem dataF_by {bs : List (List Int)} (h : ∀ b ∈ bs, Byt b) : ∀ d ∈ dataF bs, 0 ≤ d ∧ d < 256 := by
  intro d hd
  obtain ⟨l, h1, h2⟩ := List.mem_flatten.mp hd
  obtain ⟨b, h3, rfl⟩ := List.mem_map.mp h1
  exact recF_by (h b h3) d h2
theorem Bds.all {m : MH} {lo : Nat} {xs : List PV} {bs : List (List Int)} (h : Bds m lo xs bs) : ∀ b ∈ bs, Byt b := by
  intro b hb
  obtain ⟨i, hi⟩ := List.mem_iff_getElem?.mp hb
  have hl := (List.getElem?_eq_some_iff.mp hi).1
  obtain ⟨k, b', _, _, e, _, hB⟩ := h.at_ i _ (List.getElem?_eq_getElem (by rw [h.len]; exact hl))
  rw [e] at hi
  cases hi
  exact hB
theorem sub_all {bs : List (List Int)} {j : Nat} (h : ∀ b ∈ bs, Byt b) : ∀ b ∈ bs.take j, Byt b := fun b hb => h b (List.mem_of_mem_take hb)
/-! ## the law -/
theorem law1 {m : MH} {ns : List Int} (h0 : m[0]? = some (.frz (ns.map .int))) {D : ED} {s : SS} (hs : ∀ x1 m', Gr m m' → WS (s [some (.ref 0), x1, none, none, none, none, none, none, none, none, none, none] m') D) (hr : ∀ m', D.rt (.bl false) m' = False) :
    WS (xSeq (xFor (iRng1S (sC (.int 6))) (gNm 1) (law_l1)) s [some (.ref 0), none, none, none, none, none, none, none, none, none, none, none] m) D := by
  refine s_cut (mid := fun l m' => ∃ x1, l = [some (.ref 0), x1, none, none, none, none, none, none, none, none, none, none] ∧ Gr m m') ?_ ?_
  · refine s_for1 (j := 6) 6 rfl rfl (by decide) (by decide) (fun j l m' => ∃ x1, l = [some (.ref 0), x1, none, none, none, none, none, none, none, none, none, none] ∧ Gr m m') ⟨_, rfl, Gr.refl⟩ ?_ ?_
    · rintro j l m' hj ⟨x1, rfl, G⟩
      unfold law_l1
      try simp -dsimp only [at0, at1, at2, at3, at4, at5, at6, wp_fn, s_nil, s_brk, s_cnt, s_expr, s_ret, s_retN, s_if, s_asn, s_par, s_asg, g_nm, g_nil, g_cons, g_tupT, g_subW, w_v0, w_vS, w_c, w_op, w_un, w_anil, w_acons, w_tup, w_lst, w_call, w_callU, w_isi, w_meth, w_tru, w_bool, w_notS, w_andS, w_orS, w_ifx, w_andV, w_orV, w_notV, w_chain, wp_ok, wp_bad, wp_some, wp_none, wp_liftif, wp_if, asB_b, wp_noex, add_ii, sub_ii, mul_ii, fdiv_ii, mod_ii, pow_ii, neg_i, cmp_ii, lt_ii, le_ii, gt_ii, ge_ii, le_cc, muls_ii, muls_si, ins_cs, iadd_ii, isub_ii, w_onone, w_osome, w_sl, sl_s, sl_t, s_aug, eq_ss, len_s, ix_s, add_ss, str_s, tuple_t, list_t, is_n, not_n, non_n, non_i, non_b, non_s, non_t, non_r, abs_i, max_ii, min_ii, int_i, int_b, gcd_ii, len_t, ix_t, eq_v, ne_v, eq_ii, eq_bb, eq_nn, eq_in, eq_ni, iv_n_list, iv_n_tuple, iv_n_bool, iv_n_str, iv_n_int, okt_n, iv_b_list, iv_b_tuple, iv_b_bool, iv_b_str, iv_b_int, okt_b, iv_i_list, iv_i_tuple, iv_i_bool, iv_i_str, iv_i_int, okt_i, iv_s_list, iv_s_tuple, iv_s_bool, iv_s_str, iv_s_int, okt_s, iv_t_list, iv_t_tuple, iv_t_bool, iv_t_str, iv_t_int, okt_t, iv_r_list, iv_r_tuple, iv_r_bool, iv_r_str, iv_r_int, tru_b, tru_i, tru_n, tru_t, Option.map_some, Option.map_none, List.map_cons, List.map_nil, List.length_cons, List.length_nil, List.set_cons_zero, List.set_cons_succ, List.cons_append, List.nil_append, List.replicate, Nat.reduceAdd, Nat.reduceSub, Nat.reduceLeDiff, true_and, and_true, decide_eq_true_eq, reduceIte, Bool.false_eq_true, Bool.not_true, Bool.not_false, decide_true, decide_false]
      refine (linteger_ok (G.get _ _ h0) (by omega) (by omega)).mono ?_
      rintro _ m2 ⟨⟨v, rfl, v0, v1⟩, G2⟩
      try simp -dsimp only [at0, at1, at2, at3, at4, at5, at6, wp_fn, s_nil, s_brk, s_cnt, s_expr, s_ret, s_retN, s_if, s_asn, s_par, s_asg, g_nm, g_nil, g_cons, g_tupT, g_subW, w_v0, w_vS, w_c, w_op, w_un, w_anil, w_acons, w_tup, w_lst, w_call, w_callU, w_isi, w_meth, w_tru, w_bool, w_notS, w_andS, w_orS, w_ifx, w_andV, w_orV, w_notV, w_chain, wp_ok, wp_bad, wp_some, wp_none, wp_liftif, wp_if, asB_b, wp_noex, add_ii, sub_ii, mul_ii, fdiv_ii, mod_ii, pow_ii, neg_i, cmp_ii, lt_ii, le_ii, gt_ii, ge_ii, le_cc, muls_ii, muls_si, ins_cs, iadd_ii, isub_ii, w_onone, w_osome, w_sl, sl_s, sl_t, s_aug, eq_ss, len_s, ix_s, add_ss, str_s, tuple_t, list_t, is_n, not_n, non_n, non_i, non_b, non_s, non_t, non_r, abs_i, max_ii, min_ii, int_i, int_b, gcd_ii, len_t, ix_t, eq_v, ne_v, eq_ii, eq_bb, eq_nn, eq_in, eq_ni, iv_n_list, iv_n_tuple, iv_n_bool, iv_n_str, iv_n_int, okt_n, iv_b_list, iv_b_tuple, iv_b_bool, iv_b_str, iv_b_int, okt_b, iv_i_list, iv_i_tuple, iv_i_bool, iv_i_str, iv_i_int, okt_i, iv_s_list, iv_s_tuple, iv_s_bool, iv_s_str, iv_s_int, okt_s, iv_t_list, iv_t_tuple, iv_t_bool, iv_t_str, iv_t_int, okt_t, iv_r_list, iv_r_tuple, iv_r_bool, iv_r_str, iv_r_int, tru_b, tru_i, tru_n, tru_t, Option.map_some, Option.map_none, List.map_cons, List.map_nil, List.length_cons, List.length_nil, List.set_cons_zero, List.set_cons_succ, List.cons_append, List.nil_append, List.replicate, Nat.reduceAdd, Nat.reduceSub, Nat.reduceLeDiff, true_and, and_true, decide_eq_true_eq, reduceIte, Bool.false_eq_true, Bool.not_true, Bool.not_false, decide_true, decide_false]
      refine (isnum_ok v0 v1).mono ?_
      rintro _ m3 ⟨rfl, G3⟩
      try simp -dsimp only [at0, at1, at2, at3, at4, at5, at6, wp_fn, s_nil, s_brk, s_cnt, s_expr, s_ret, s_retN, s_if, s_asn, s_par, s_asg, g_nm, g_nil, g_cons, g_tupT, g_subW, w_v0, w_vS, w_c, w_op, w_un, w_anil, w_acons, w_tup, w_lst, w_call, w_callU, w_isi, w_meth, w_tru, w_bool, w_notS, w_andS, w_orS, w_ifx, w_andV, w_orV, w_notV, w_chain, wp_ok, wp_bad, wp_some, wp_none, wp_liftif, wp_if, asB_b, wp_noex, add_ii, sub_ii, mul_ii, fdiv_ii, mod_ii, pow_ii, neg_i, cmp_ii, lt_ii, le_ii, gt_ii, ge_ii, le_cc, muls_ii, muls_si, ins_cs, iadd_ii, isub_ii, w_onone, w_osome, w_sl, sl_s, sl_t, s_aug, eq_ss, len_s, ix_s, add_ss, str_s, tuple_t, list_t, is_n, not_n, non_n, non_i, non_b, non_s, non_t, non_r, abs_i, max_ii, min_ii, int_i, int_b, gcd_ii, len_t, ix_t, eq_v, ne_v, eq_ii, eq_bb, eq_nn, eq_in, eq_ni, iv_n_list, iv_n_tuple, iv_n_bool, iv_n_str, iv_n_int, okt_n, iv_b_list, iv_b_tuple, iv_b_bool, iv_b_str, iv_b_int, okt_b, iv_i_list, iv_i_tuple, iv_i_bool, iv_i_str, iv_i_int, okt_i, iv_s_list, iv_s_tuple, iv_s_bool, iv_s_str, iv_s_int, okt_s, iv_t_list, iv_t_tuple, iv_t_bool, iv_t_str, iv_t_int, okt_t, iv_r_list, iv_r_tuple, iv_r_bool, iv_r_str, iv_r_int, tru_b, tru_i, tru_n, tru_t, Option.map_some, Option.map_none, List.map_cons, List.map_nil, List.length_cons, List.length_nil, List.set_cons_zero, List.set_cons_succ, List.cons_append, List.nil_append, List.replicate, Nat.reduceAdd, Nat.reduceSub, Nat.reduceLeDiff, true_and, and_true, decide_eq_true_eq, reduceIte, Bool.false_eq_true, Bool.not_true, Bool.not_false, decide_true, decide_false]
      exact ⟨_, rfl, (G.trans G2).trans G3⟩
    · rintro l m' ⟨x1, rfl, G⟩
      exact ⟨_, rfl, G⟩
  · rintro _ m' ⟨x1, rfl, G⟩
    exact hs x1 m' G
theorem law2 {m : MH} {lo : Nat} {xs : List PV} {bs : List (List Int)} {x1 : Option PV} (P : m[lo]? = some (.lst xs)) (hB : Bds m lo xs bs) (hb4 : bs.length ≤ 4) {D : ED} {s : SS} {d0 : Nat} (hd0 : m[d0]? = some (.lst []))
    (hs : ∀ (d : Nat) (x4 : Option PV) (m' : MH), m'[d]? = some (.lst ((dataF bs).map .int)) → Gr m m' → WS (s [some (.ref 0), x1, some (.ref lo), some (.ref d), x4, none, none, none, none, none, none, none] m') D) :
    WS (xSeq (xFor (iSeq (sVar 2)) (gNm 4) (law_l2)) s [some (.ref 0), x1, some (.ref lo), some (.ref d0), none, none, none, none, none, none, none, none] m) D := by
  have hxl := hB.len
  have hall := hB.all
  refine s_cut (mid := fun l m' => ∃ (d : Nat) (x4 : Option PV), l = [some (.ref 0), x1, some (.ref lo), some (.ref d), x4, none, none, none, none, none, none, none] ∧ m'[d]? = some (.lst ((dataF bs).map .int)) ∧ Gr m m') ?_ ?_
  · refine s_forLW ?_
    try simp -dsimp only [at0, at1, at2, at3, at4, at5, at6, wp_fn, s_nil, s_brk, s_cnt, s_expr, s_ret, s_retN, s_if, s_asn, s_par, s_asg, g_nm, g_nil, g_cons, g_tupT, g_subW, w_v0, w_vS, w_c, w_op, w_un, w_anil, w_acons, w_tup, w_lst, w_call, w_callU, w_isi, w_meth, w_tru, w_bool, w_notS, w_andS, w_orS, w_ifx, w_andV, w_orV, w_notV, w_chain, wp_ok, wp_bad, wp_some, wp_none, wp_liftif, wp_if, asB_b, wp_noex, add_ii, sub_ii, mul_ii, fdiv_ii, mod_ii, pow_ii, neg_i, cmp_ii, lt_ii, le_ii, gt_ii, ge_ii, le_cc, muls_ii, muls_si, ins_cs, iadd_ii, isub_ii, w_onone, w_osome, w_sl, sl_s, sl_t, s_aug, eq_ss, len_s, ix_s, add_ss, str_s, tuple_t, list_t, is_n, not_n, non_n, non_i, non_b, non_s, non_t, non_r, abs_i, max_ii, min_ii, int_i, int_b, gcd_ii, len_t, ix_t, eq_v, ne_v, eq_ii, eq_bb, eq_nn, eq_in, eq_ni, iv_n_list, iv_n_tuple, iv_n_bool, iv_n_str, iv_n_int, okt_n, iv_b_list, iv_b_tuple, iv_b_bool, iv_b_str, iv_b_int, okt_b, iv_i_list, iv_i_tuple, iv_i_bool, iv_i_str, iv_i_int, okt_i, iv_s_list, iv_s_tuple, iv_s_bool, iv_s_str, iv_s_int, okt_s, iv_t_list, iv_t_tuple, iv_t_bool, iv_t_str, iv_t_int, okt_t, iv_r_list, iv_r_tuple, iv_r_bool, iv_r_str, iv_r_int, tru_b, tru_i, tru_n, tru_t, Option.map_some, Option.map_none, List.map_cons, List.map_nil, List.length_cons, List.length_nil, List.set_cons_zero, List.set_cons_succ, List.cons_append, List.nil_append, List.replicate, Nat.reduceAdd, Nat.reduceSub, Nat.reduceLeDiff, true_and, and_true, decide_eq_true_eq, reduceIte, Bool.false_eq_true, Bool.not_true, Bool.not_false, decide_true, decide_false]
    refine ⟨_, xs, rfl, seq_of_lst P, fun j l m' => ∃ (d : Nat) (x4 : Option PV), l = [some (.ref 0), x1, some (.ref lo), some (.ref d), x4, none, none, none, none, none, none, none] ∧ m'[d]? = some (.lst ((dataF (bs.take j)).map .int)) ∧ Gr m m', ⟨d0, _, rfl, hd0, Gr.refl⟩, ?_, ?_, ?_⟩
    · rintro j l m' ⟨d, x4, rfl, hd, G⟩
      exact seq_of_lst (G.get _ _ P)
    · rintro j x l m' hx ⟨d, x4, rfl, hd, G⟩
      obtain ⟨k, b, rfl, _, hbj, K, hBy⟩ := hB.at_ j x hx
      have K := G.get _ _ K
      have hrl := recF_len hBy
      have hdl := dataF_len (sub_all (j := j) hall)
      rw [List.length_take] at hdl
      unfold law_l2
      try simp -dsimp only [list_r (seq_of_lst K), at0, at1, at2, at3, at4, at5, at6, wp_fn, s_nil, s_brk, s_cnt, s_expr, s_ret, s_retN, s_if, s_asn, s_par, s_asg, g_nm, g_nil, g_cons, g_tupT, g_subW, w_v0, w_vS, w_c, w_op, w_un, w_anil, w_acons, w_tup, w_lst, w_call, w_callU, w_isi, w_meth, w_tru, w_bool, w_notS, w_andS, w_orS, w_ifx, w_andV, w_orV, w_notV, w_chain, wp_ok, wp_bad, wp_some, wp_none, wp_liftif, wp_if, asB_b, wp_noex, add_ii, sub_ii, mul_ii, fdiv_ii, mod_ii, pow_ii, neg_i, cmp_ii, lt_ii, le_ii, gt_ii, ge_ii, le_cc, muls_ii, muls_si, ins_cs, iadd_ii, isub_ii, w_onone, w_osome, w_sl, sl_s, sl_t, s_aug, eq_ss, len_s, ix_s, add_ss, str_s, tuple_t, list_t, is_n, not_n, non_n, non_i, non_b, non_s, non_t, non_r, abs_i, max_ii, min_ii, int_i, int_b, gcd_ii, len_t, ix_t, eq_v, ne_v, eq_ii, eq_bb, eq_nn, eq_in, eq_ni, iv_n_list, iv_n_tuple, iv_n_bool, iv_n_str, iv_n_int, okt_n, iv_b_list, iv_b_tuple, iv_b_bool, iv_b_str, iv_b_int, okt_b, iv_i_list, iv_i_tuple, iv_i_bool, iv_i_str, iv_i_int, okt_i, iv_s_list, iv_s_tuple, iv_s_bool, iv_s_str, iv_s_int, okt_s, iv_t_list, iv_t_tuple, iv_t_bool, iv_t_str, iv_t_int, okt_t, iv_r_list, iv_r_tuple, iv_r_bool, iv_r_str, iv_r_int, tru_b, tru_i, tru_n, tru_t, Option.map_some, Option.map_none, List.map_cons, List.map_nil, List.length_cons, List.length_nil, List.set_cons_zero, List.set_cons_succ, List.cons_append, List.nil_append, List.replicate, Nat.reduceAdd, Nat.reduceSub, Nat.reduceLeDiff, true_and, and_true, decide_eq_true_eq, reduceIte, Bool.false_eq_true, Bool.not_true, Bool.not_false, decide_true, decide_false]
      rw [s_seq]
      try simp -dsimp only [list_r (seq_of_lst K), at0, at1, at2, at3, at4, at5, at6, wp_fn, s_nil, s_brk, s_cnt, s_expr, s_ret, s_retN, s_if, s_asn, s_par, s_asg, g_nm, g_nil, g_cons, g_tupT, g_subW, w_v0, w_vS, w_c, w_op, w_un, w_anil, w_acons, w_tup, w_lst, w_call, w_callU, w_isi, w_meth, w_tru, w_bool, w_notS, w_andS, w_orS, w_ifx, w_andV, w_orV, w_notV, w_chain, wp_ok, wp_bad, wp_some, wp_none, wp_liftif, wp_if, asB_b, wp_noex, add_ii, sub_ii, mul_ii, fdiv_ii, mod_ii, pow_ii, neg_i, cmp_ii, lt_ii, le_ii, gt_ii, ge_ii, le_cc, muls_ii, muls_si, ins_cs, iadd_ii, isub_ii, w_onone, w_osome, w_sl, sl_s, sl_t, s_aug, eq_ss, len_s, ix_s, add_ss, str_s, tuple_t, list_t, is_n, not_n, non_n, non_i, non_b, non_s, non_t, non_r, abs_i, max_ii, min_ii, int_i, int_b, gcd_ii, len_t, ix_t, eq_v, ne_v, eq_ii, eq_bb, eq_nn, eq_in, eq_ni, iv_n_list, iv_n_tuple, iv_n_bool, iv_n_str, iv_n_int, okt_n, iv_b_list, iv_b_tuple, iv_b_bool, iv_b_str, iv_b_int, okt_b, iv_i_list, iv_i_tuple, iv_i_bool, iv_i_str, iv_i_int, okt_i, iv_s_list, iv_s_tuple, iv_s_bool, iv_s_str, iv_s_int, okt_s, iv_t_list, iv_t_tuple, iv_t_bool, iv_t_str, iv_t_int, okt_t, iv_r_list, iv_r_tuple, iv_r_bool, iv_r_str, iv_r_int, tru_b, tru_i, tru_n, tru_t, Option.map_some, Option.map_none, List.map_cons, List.map_nil, List.length_cons, List.length_nil, List.set_cons_zero, List.set_cons_succ, List.cons_append, List.nil_append, List.replicate, Nat.reduceAdd, Nat.reduceSub, Nat.reduceLeDiff, true_and, and_true, decide_eq_true_eq, reduceIte, Bool.false_eq_true, Bool.not_true, Bool.not_false, decide_true, decide_false]
      refine (recordof_ok get_new hBy).mono ?_
      rintro _ m2 ⟨k2, rfl, K2, _, G2⟩
      try simp -dsimp only [list_r (seq_of_lst K2), at0, at1, at2, at3, at4, at5, at6, wp_fn, s_nil, s_brk, s_cnt, s_expr, s_ret, s_retN, s_if, s_asn, s_par, s_asg, g_nm, g_nil, g_cons, g_tupT, g_subW, w_v0, w_vS, w_c, w_op, w_un, w_anil, w_acons, w_tup, w_lst, w_call, w_callU, w_isi, w_meth, w_tru, w_bool, w_notS, w_andS, w_orS, w_ifx, w_andV, w_orV, w_notV, w_chain, wp_ok, wp_bad, wp_some, wp_none, wp_liftif, wp_if, asB_b, wp_noex, add_ii, sub_ii, mul_ii, fdiv_ii, mod_ii, pow_ii, neg_i, cmp_ii, lt_ii, le_ii, gt_ii, ge_ii, le_cc, muls_ii, muls_si, ins_cs, iadd_ii, isub_ii, w_onone, w_osome, w_sl, sl_s, sl_t, s_aug, eq_ss, len_s, ix_s, add_ss, str_s, tuple_t, list_t, is_n, not_n, non_n, non_i, non_b, non_s, non_t, non_r, abs_i, max_ii, min_ii, int_i, int_b, gcd_ii, len_t, ix_t, eq_v, ne_v, eq_ii, eq_bb, eq_nn, eq_in, eq_ni, iv_n_list, iv_n_tuple, iv_n_bool, iv_n_str, iv_n_int, okt_n, iv_b_list, iv_b_tuple, iv_b_bool, iv_b_str, iv_b_int, okt_b, iv_i_list, iv_i_tuple, iv_i_bool, iv_i_str, iv_i_int, okt_i, iv_s_list, iv_s_tuple, iv_s_bool, iv_s_str, iv_s_int, okt_s, iv_t_list, iv_t_tuple, iv_t_bool, iv_t_str, iv_t_int, okt_t, iv_r_list, iv_r_tuple, iv_r_bool, iv_r_str, iv_r_int, tru_b, tru_i, tru_n, tru_t, Option.map_some, Option.map_none, List.map_cons, List.map_nil, List.length_cons, List.length_nil, List.set_cons_zero, List.set_cons_succ, List.cons_append, List.nil_append, List.replicate, Nat.reduceAdd, Nat.reduceSub, Nat.reduceLeDiff, true_and, and_true, decide_eq_true_eq, reduceIte, Bool.false_eq_true, Bool.not_true, Bool.not_false, decide_true, decide_false]
      have G2 := ((Gr.one (m := m') (o := MO.lst (b.map PV.int))).trans G2).push (MO.lst ((recF b).map PV.int))
      have N2 := get_new (m := m2) (o := MO.lst ((recF b).map PV.int))
      generalize m2 ++ [MO.lst ((recF b).map PV.int)] = m3 at *
      generalize m2.length = n2 at *
      refine (lrecord_ok (G2.get _ _ K) hBy).mono ?_
      rintro _ m4 ⟨k4, rfl, K4, _, G4⟩
      try simp -dsimp only [at0, at1, at2, at3, at4, at5, at6, wp_fn, s_nil, s_brk, s_cnt, s_expr, s_ret, s_retN, s_if, s_asn, s_par, s_asg, g_nm, g_nil, g_cons, g_tupT, g_subW, w_v0, w_vS, w_c, w_op, w_un, w_anil, w_acons, w_tup, w_lst, w_call, w_callU, w_isi, w_meth, w_tru, w_bool, w_notS, w_andS, w_orS, w_ifx, w_andV, w_orV, w_notV, w_chain, wp_ok, wp_bad, wp_some, wp_none, wp_liftif, wp_if, asB_b, wp_noex, add_ii, sub_ii, mul_ii, fdiv_ii, mod_ii, pow_ii, neg_i, cmp_ii, lt_ii, le_ii, gt_ii, ge_ii, le_cc, muls_ii, muls_si, ins_cs, iadd_ii, isub_ii, w_onone, w_osome, w_sl, sl_s, sl_t, s_aug, eq_ss, len_s, ix_s, add_ss, str_s, tuple_t, list_t, is_n, not_n, non_n, non_i, non_b, non_s, non_t, non_r, abs_i, max_ii, min_ii, int_i, int_b, gcd_ii, len_t, ix_t, eq_v, ne_v, eq_ii, eq_bb, eq_nn, eq_in, eq_ni, iv_n_list, iv_n_tuple, iv_n_bool, iv_n_str, iv_n_int, okt_n, iv_b_list, iv_b_tuple, iv_b_bool, iv_b_str, iv_b_int, okt_b, iv_i_list, iv_i_tuple, iv_i_bool, iv_i_str, iv_i_int, okt_i, iv_s_list, iv_s_tuple, iv_s_bool, iv_s_str, iv_s_int, okt_s, iv_t_list, iv_t_tuple, iv_t_bool, iv_t_str, iv_t_int, okt_t, iv_r_list, iv_r_tuple, iv_r_bool, iv_r_str, iv_r_int, tru_b, tru_i, tru_n, tru_t, Option.map_some, Option.map_none, List.map_cons, List.map_nil, List.length_cons, List.length_nil, List.set_cons_zero, List.set_cons_succ, List.cons_append, List.nil_append, List.replicate, Nat.reduceAdd, Nat.reduceSub, Nat.reduceLeDiff, true_and, and_true, decide_eq_true_eq, reduceIte, Bool.false_eq_true, Bool.not_true, Bool.not_false, decide_true, decide_false]
      rw [eq_ints (seq_of_lst (G4.get _ _ N2)) (seq_of_lst K4)]
      try simp -dsimp only [at0, at1, at2, at3, at4, at5, at6, wp_fn, s_nil, s_brk, s_cnt, s_expr, s_ret, s_retN, s_if, s_asn, s_par, s_asg, g_nm, g_nil, g_cons, g_tupT, g_subW, w_v0, w_vS, w_c, w_op, w_un, w_anil, w_acons, w_tup, w_lst, w_call, w_callU, w_isi, w_meth, w_tru, w_bool, w_notS, w_andS, w_orS, w_ifx, w_andV, w_orV, w_notV, w_chain, wp_ok, wp_bad, wp_some, wp_none, wp_liftif, wp_if, asB_b, wp_noex, add_ii, sub_ii, mul_ii, fdiv_ii, mod_ii, pow_ii, neg_i, cmp_ii, lt_ii, le_ii, gt_ii, ge_ii, le_cc, muls_ii, muls_si, ins_cs, iadd_ii, isub_ii, w_onone, w_osome, w_sl, sl_s, sl_t, s_aug, eq_ss, len_s, ix_s, add_ss, str_s, tuple_t, list_t, is_n, not_n, non_n, non_i, non_b, non_s, non_t, non_r, abs_i, max_ii, min_ii, int_i, int_b, gcd_ii, len_t, ix_t, eq_v, ne_v, eq_ii, eq_bb, eq_nn, eq_in, eq_ni, iv_n_list, iv_n_tuple, iv_n_bool, iv_n_str, iv_n_int, okt_n, iv_b_list, iv_b_tuple, iv_b_bool, iv_b_str, iv_b_int, okt_b, iv_i_list, iv_i_tuple, iv_i_bool, iv_i_str, iv_i_int, okt_i, iv_s_list, iv_s_tuple, iv_s_bool, iv_s_str, iv_s_int, okt_s, iv_t_list, iv_t_tuple, iv_t_bool, iv_t_str, iv_t_int, okt_t, iv_r_list, iv_r_tuple, iv_r_bool, iv_r_str, iv_r_int, tru_b, tru_i, tru_n, tru_t, Option.map_some, Option.map_none, List.map_cons, List.map_nil, List.length_cons, List.length_nil, List.set_cons_zero, List.set_cons_succ, List.cons_append, List.nil_append, List.replicate, Nat.reduceAdd, Nat.reduceSub, Nat.reduceLeDiff, true_and, and_true, decide_eq_true_eq, reduceIte, Bool.false_eq_true, Bool.not_true, Bool.not_false, decide_true, decide_false]
      have G5 := G2.trans G4
      refine (lrecord_ok (G5.get _ _ K) hBy).mono ?_
      rintro _ m6 ⟨k6, rfl, K6, _, G6⟩
      try simp -dsimp only [at0, at1, at2, at3, at4, at5, at6, wp_fn, s_nil, s_brk, s_cnt, s_expr, s_ret, s_retN, s_if, s_asn, s_par, s_asg, g_nm, g_nil, g_cons, g_tupT, g_subW, w_v0, w_vS, w_c, w_op, w_un, w_anil, w_acons, w_tup, w_lst, w_call, w_callU, w_isi, w_meth, w_tru, w_bool, w_notS, w_andS, w_orS, w_ifx, w_andV, w_orV, w_notV, w_chain, wp_ok, wp_bad, wp_some, wp_none, wp_liftif, wp_if, asB_b, wp_noex, add_ii, sub_ii, mul_ii, fdiv_ii, mod_ii, pow_ii, neg_i, cmp_ii, lt_ii, le_ii, gt_ii, ge_ii, le_cc, muls_ii, muls_si, ins_cs, iadd_ii, isub_ii, w_onone, w_osome, w_sl, sl_s, sl_t, s_aug, eq_ss, len_s, ix_s, add_ss, str_s, tuple_t, list_t, is_n, not_n, non_n, non_i, non_b, non_s, non_t, non_r, abs_i, max_ii, min_ii, int_i, int_b, gcd_ii, len_t, ix_t, eq_v, ne_v, eq_ii, eq_bb, eq_nn, eq_in, eq_ni, iv_n_list, iv_n_tuple, iv_n_bool, iv_n_str, iv_n_int, okt_n, iv_b_list, iv_b_tuple, iv_b_bool, iv_b_str, iv_b_int, okt_b, iv_i_list, iv_i_tuple, iv_i_bool, iv_i_str, iv_i_int, okt_i, iv_s_list, iv_s_tuple, iv_s_bool, iv_s_str, iv_s_int, okt_s, iv_t_list, iv_t_tuple, iv_t_bool, iv_t_str, iv_t_int, okt_t, iv_r_list, iv_r_tuple, iv_r_bool, iv_r_str, iv_r_int, tru_b, tru_i, tru_n, tru_t, Option.map_some, Option.map_none, List.map_cons, List.map_nil, List.length_cons, List.length_nil, List.set_cons_zero, List.set_cons_succ, List.cons_append, List.nil_append, List.replicate, Nat.reduceAdd, Nat.reduceSub, Nat.reduceLeDiff, true_and, and_true, decide_eq_true_eq, reduceIte, Bool.false_eq_true, Bool.not_true, Bool.not_false, decide_true, decide_false]
      rw [add_rr (lst_of ((G5.trans G6).get _ _ hd)) (lst_of K6), if_pos (by rw [List.length_map, List.length_map]; omega)]
      try simp -dsimp only [at0, at1, at2, at3, at4, at5, at6, wp_fn, s_nil, s_brk, s_cnt, s_expr, s_ret, s_retN, s_if, s_asn, s_par, s_asg, g_nm, g_nil, g_cons, g_tupT, g_subW, w_v0, w_vS, w_c, w_op, w_un, w_anil, w_acons, w_tup, w_lst, w_call, w_callU, w_isi, w_meth, w_tru, w_bool, w_notS, w_andS, w_orS, w_ifx, w_andV, w_orV, w_notV, w_chain, wp_ok, wp_bad, wp_some, wp_none, wp_liftif, wp_if, asB_b, wp_noex, add_ii, sub_ii, mul_ii, fdiv_ii, mod_ii, pow_ii, neg_i, cmp_ii, lt_ii, le_ii, gt_ii, ge_ii, le_cc, muls_ii, muls_si, ins_cs, iadd_ii, isub_ii, w_onone, w_osome, w_sl, sl_s, sl_t, s_aug, eq_ss, len_s, ix_s, add_ss, str_s, tuple_t, list_t, is_n, not_n, non_n, non_i, non_b, non_s, non_t, non_r, abs_i, max_ii, min_ii, int_i, int_b, gcd_ii, len_t, ix_t, eq_v, ne_v, eq_ii, eq_bb, eq_nn, eq_in, eq_ni, iv_n_list, iv_n_tuple, iv_n_bool, iv_n_str, iv_n_int, okt_n, iv_b_list, iv_b_tuple, iv_b_bool, iv_b_str, iv_b_int, okt_b, iv_i_list, iv_i_tuple, iv_i_bool, iv_i_str, iv_i_int, okt_i, iv_s_list, iv_s_tuple, iv_s_bool, iv_s_str, iv_s_int, okt_s, iv_t_list, iv_t_tuple, iv_t_bool, iv_t_str, iv_t_int, okt_t, iv_r_list, iv_r_tuple, iv_r_bool, iv_r_str, iv_r_int, tru_b, tru_i, tru_n, tru_t, Option.map_some, Option.map_none, List.map_cons, List.map_nil, List.length_cons, List.length_nil, List.set_cons_zero, List.set_cons_succ, List.cons_append, List.nil_append, List.replicate, Nat.reduceAdd, Nat.reduceSub, Nat.reduceLeDiff, true_and, and_true, decide_eq_true_eq, reduceIte, Bool.false_eq_true, Bool.not_true, Bool.not_false, decide_true, decide_false]
      refine ⟨_, _, rfl, ?_, (G.trans (G5.trans G6)).push _⟩
      rw [get_new, dataF_take hbj, List.map_append]
    · rintro l m' ⟨d, x4, rfl, hd, G⟩
      rw [hxl, List.take_length] at hd
      exact ⟨_, _, rfl, hd, G⟩
  · rintro l m' ⟨d, x4, rfl, hd, G⟩
    exact hs d x4 m' hd G
theorem law3 {m : MH} {lo d : Nat} {xs : List PV} {bs : List (List Int)} {x1 x4 : Option PV} (P : m[lo]? = some (.lst xs)) (hB : Bds m lo xs bs) (hb4 : bs.length ≤ 4) {D : ED} {s : SS} (hd : m[d]? = some (.lst ((dataF bs).map .int)))
    (hs : ∀ (x4 x6 : Option PV) (m' : MH), Gr m m' → WS (s [some (.ref 0), x1, some (.ref lo), some (.ref d), x4, some (.int ((dataF bs).length : Nat)), x6, none, none, none, none, none] m') D) :
    WS (xSeq (xFor (iSeq (sVar 2)) (gNm 4) (law_l3)) s [some (.ref 0), x1, some (.ref lo), some (.ref d), x4, some (.int 0), none, none, none, none, none, none] m) D := by
  have hxl := hB.len
  have hall := hB.all
  have hdl := dataF_len hall
  refine s_cut (mid := fun l m' => ∃ (x4 x6 : Option PV), l = [some (.ref 0), x1, some (.ref lo), some (.ref d), x4, some (.int ((dataF bs).length : Nat)), x6, none, none, none, none, none] ∧ Gr m m') ?_ ?_
  · refine s_forLW ?_
    try simp -dsimp only [at0, at1, at2, at3, at4, at5, at6, wp_fn, s_nil, s_brk, s_cnt, s_expr, s_ret, s_retN, s_if, s_asn, s_par, s_asg, g_nm, g_nil, g_cons, g_tupT, g_subW, w_v0, w_vS, w_c, w_op, w_un, w_anil, w_acons, w_tup, w_lst, w_call, w_callU, w_isi, w_meth, w_tru, w_bool, w_notS, w_andS, w_orS, w_ifx, w_andV, w_orV, w_notV, w_chain, wp_ok, wp_bad, wp_some, wp_none, wp_liftif, wp_if, asB_b, wp_noex, add_ii, sub_ii, mul_ii, fdiv_ii, mod_ii, pow_ii, neg_i, cmp_ii, lt_ii, le_ii, gt_ii, ge_ii, le_cc, muls_ii, muls_si, ins_cs, iadd_ii, isub_ii, w_onone, w_osome, w_sl, sl_s, sl_t, s_aug, eq_ss, len_s, ix_s, add_ss, str_s, tuple_t, list_t, is_n, not_n, non_n, non_i, non_b, non_s, non_t, non_r, abs_i, max_ii, min_ii, int_i, int_b, gcd_ii, len_t, ix_t, eq_v, ne_v, eq_ii, eq_bb, eq_nn, eq_in, eq_ni, iv_n_list, iv_n_tuple, iv_n_bool, iv_n_str, iv_n_int, okt_n, iv_b_list, iv_b_tuple, iv_b_bool, iv_b_str, iv_b_int, okt_b, iv_i_list, iv_i_tuple, iv_i_bool, iv_i_str, iv_i_int, okt_i, iv_s_list, iv_s_tuple, iv_s_bool, iv_s_str, iv_s_int, okt_s, iv_t_list, iv_t_tuple, iv_t_bool, iv_t_str, iv_t_int, okt_t, iv_r_list, iv_r_tuple, iv_r_bool, iv_r_str, iv_r_int, tru_b, tru_i, tru_n, tru_t, Option.map_some, Option.map_none, List.map_cons, List.map_nil, List.length_cons, List.length_nil, List.set_cons_zero, List.set_cons_succ, List.cons_append, List.nil_append, List.replicate, Nat.reduceAdd, Nat.reduceSub, Nat.reduceLeDiff, true_and, and_true, decide_eq_true_eq, reduceIte, Bool.false_eq_true, Bool.not_true, Bool.not_false, decide_true, decide_false]
    refine ⟨_, xs, rfl, seq_of_lst P, fun j l m' => ∃ (x4 x6 : Option PV), l = [some (.ref 0), x1, some (.ref lo), some (.ref d), x4, some (.int ((dataF (bs.take j)).length : Nat)), x6, none, none, none, none, none] ∧ Gr m m', ⟨_, _, rfl, Gr.refl⟩, ?_, ?_, ?_⟩
    · rintro j l m' ⟨x4, x6, rfl, G⟩
      exact seq_of_lst (G.get _ _ P)
    · rintro j x l m' hx ⟨x4, x6, rfl, G⟩
      obtain ⟨k, b, rfl, _, hbj, K, hBy⟩ := hB.at_ j x hx
      have K := G.get _ _ K
      have hd := G.get _ _ hd
      have hrl := recF_len hBy
      have hjl := dataF_len (sub_all (j := j) hall)
      rw [List.length_take] at hjl
      have hsp := dataF_split hbj
      have hsp2 := hsp
      rw [recF_app] at hsp2
      unfold law_l3
      try simp -dsimp only [list_r (seq_of_lst hd), at0, at1, at2, at3, at4, at5, at6, wp_fn, s_nil, s_brk, s_cnt, s_expr, s_ret, s_retN, s_if, s_asn, s_par, s_asg, g_nm, g_nil, g_cons, g_tupT, g_subW, w_v0, w_vS, w_c, w_op, w_un, w_anil, w_acons, w_tup, w_lst, w_call, w_callU, w_isi, w_meth, w_tru, w_bool, w_notS, w_andS, w_orS, w_ifx, w_andV, w_orV, w_notV, w_chain, wp_ok, wp_bad, wp_some, wp_none, wp_liftif, wp_if, asB_b, wp_noex, add_ii, sub_ii, mul_ii, fdiv_ii, mod_ii, pow_ii, neg_i, cmp_ii, lt_ii, le_ii, gt_ii, ge_ii, le_cc, muls_ii, muls_si, ins_cs, iadd_ii, isub_ii, w_onone, w_osome, w_sl, sl_s, sl_t, s_aug, eq_ss, len_s, ix_s, add_ss, str_s, tuple_t, list_t, is_n, not_n, non_n, non_i, non_b, non_s, non_t, non_r, abs_i, max_ii, min_ii, int_i, int_b, gcd_ii, len_t, ix_t, eq_v, ne_v, eq_ii, eq_bb, eq_nn, eq_in, eq_ni, iv_n_list, iv_n_tuple, iv_n_bool, iv_n_str, iv_n_int, okt_n, iv_b_list, iv_b_tuple, iv_b_bool, iv_b_str, iv_b_int, okt_b, iv_i_list, iv_i_tuple, iv_i_bool, iv_i_str, iv_i_int, okt_i, iv_s_list, iv_s_tuple, iv_s_bool, iv_s_str, iv_s_int, okt_s, iv_t_list, iv_t_tuple, iv_t_bool, iv_t_str, iv_t_int, okt_t, iv_r_list, iv_r_tuple, iv_r_bool, iv_r_str, iv_r_int, tru_b, tru_i, tru_n, tru_t, Option.map_some, Option.map_none, List.map_cons, List.map_nil, List.length_cons, List.length_nil, List.set_cons_zero, List.set_cons_succ, List.cons_append, List.nil_append, List.replicate, Nat.reduceAdd, Nat.reduceSub, Nat.reduceLeDiff, true_and, and_true, decide_eq_true_eq, reduceIte, Bool.false_eq_true, Bool.not_true, Bool.not_false, decide_true, decide_false]
      rw [s_seq]
      try simp -dsimp only [list_r (seq_of_lst hd), at0, at1, at2, at3, at4, at5, at6, wp_fn, s_nil, s_brk, s_cnt, s_expr, s_ret, s_retN, s_if, s_asn, s_par, s_asg, g_nm, g_nil, g_cons, g_tupT, g_subW, w_v0, w_vS, w_c, w_op, w_un, w_anil, w_acons, w_tup, w_lst, w_call, w_callU, w_isi, w_meth, w_tru, w_bool, w_notS, w_andS, w_orS, w_ifx, w_andV, w_orV, w_notV, w_chain, wp_ok, wp_bad, wp_some, wp_none, wp_liftif, wp_if, asB_b, wp_noex, add_ii, sub_ii, mul_ii, fdiv_ii, mod_ii, pow_ii, neg_i, cmp_ii, lt_ii, le_ii, gt_ii, ge_ii, le_cc, muls_ii, muls_si, ins_cs, iadd_ii, isub_ii, w_onone, w_osome, w_sl, sl_s, sl_t, s_aug, eq_ss, len_s, ix_s, add_ss, str_s, tuple_t, list_t, is_n, not_n, non_n, non_i, non_b, non_s, non_t, non_r, abs_i, max_ii, min_ii, int_i, int_b, gcd_ii, len_t, ix_t, eq_v, ne_v, eq_ii, eq_bb, eq_nn, eq_in, eq_ni, iv_n_list, iv_n_tuple, iv_n_bool, iv_n_str, iv_n_int, okt_n, iv_b_list, iv_b_tuple, iv_b_bool, iv_b_str, iv_b_int, okt_b, iv_i_list, iv_i_tuple, iv_i_bool, iv_i_str, iv_i_int, okt_i, iv_s_list, iv_s_tuple, iv_s_bool, iv_s_str, iv_s_int, okt_s, iv_t_list, iv_t_tuple, iv_t_bool, iv_t_str, iv_t_int, okt_t, iv_r_list, iv_r_tuple, iv_r_bool, iv_r_str, iv_r_int, tru_b, tru_i, tru_n, tru_t, Option.map_some, Option.map_none, List.map_cons, List.map_nil, List.length_cons, List.length_nil, List.set_cons_zero, List.set_cons_succ, List.cons_append, List.nil_append, List.replicate, Nat.reduceAdd, Nat.reduceSub, Nat.reduceLeDiff, true_and, and_true, decide_eq_true_eq, reduceIte, Bool.false_eq_true, Bool.not_true, Bool.not_false, decide_true, decide_false]
      refine (readrec_ok get_new (dataF_by hall) (by omega) (by omega) (rn_full hBy.2 hsp2)).mono ?_
      rintro _ m2 ⟨_, ht, G2⟩
      obtain ⟨k2, rfl, K2⟩ := ht _ _ (rr_at hsp)
      have G2 := Gr.one.trans G2
      have K := G2.get _ _ K
      try simp -dsimp only [at0, at1, at2, at3, at4, at5, at6, wp_fn, s_nil, s_brk, s_cnt, s_expr, s_ret, s_retN, s_if, s_asn, s_par, s_asg, g_nm, g_nil, g_cons, g_tupT, g_subW, w_v0, w_vS, w_c, w_op, w_un, w_anil, w_acons, w_tup, w_lst, w_call, w_callU, w_isi, w_meth, w_tru, w_bool, w_notS, w_andS, w_orS, w_ifx, w_andV, w_orV, w_notV, w_chain, wp_ok, wp_bad, wp_some, wp_none, wp_liftif, wp_if, asB_b, wp_noex, add_ii, sub_ii, mul_ii, fdiv_ii, mod_ii, pow_ii, neg_i, cmp_ii, lt_ii, le_ii, gt_ii, ge_ii, le_cc, muls_ii, muls_si, ins_cs, iadd_ii, isub_ii, w_onone, w_osome, w_sl, sl_s, sl_t, s_aug, eq_ss, len_s, ix_s, add_ss, str_s, tuple_t, list_t, is_n, not_n, non_n, non_i, non_b, non_s, non_t, non_r, abs_i, max_ii, min_ii, int_i, int_b, gcd_ii, len_t, ix_t, eq_v, ne_v, eq_ii, eq_bb, eq_nn, eq_in, eq_ni, iv_n_list, iv_n_tuple, iv_n_bool, iv_n_str, iv_n_int, okt_n, iv_b_list, iv_b_tuple, iv_b_bool, iv_b_str, iv_b_int, okt_b, iv_i_list, iv_i_tuple, iv_i_bool, iv_i_str, iv_i_int, okt_i, iv_s_list, iv_s_tuple, iv_s_bool, iv_s_str, iv_s_int, okt_s, iv_t_list, iv_t_tuple, iv_t_bool, iv_t_str, iv_t_int, okt_t, iv_r_list, iv_r_tuple, iv_r_bool, iv_r_str, iv_r_int, tru_b, tru_i, tru_n, tru_t, Option.map_some, Option.map_none, List.map_cons, List.map_nil, List.length_cons, List.length_nil, List.set_cons_zero, List.set_cons_succ, List.cons_append, List.nil_append, List.replicate, Nat.reduceAdd, Nat.reduceSub, Nat.reduceLeDiff, true_and, and_true, decide_eq_true_eq, reduceIte, Bool.false_eq_true, Bool.not_true, Bool.not_false, decide_true, decide_false]
      rw [s_seq]
      try simp -dsimp only [list_r (seq_of_lst K2), at0, at1, at2, at3, at4, at5, at6, wp_fn, s_nil, s_brk, s_cnt, s_expr, s_ret, s_retN, s_if, s_asn, s_par, s_asg, g_nm, g_nil, g_cons, g_tupT, g_subW, w_v0, w_vS, w_c, w_op, w_un, w_anil, w_acons, w_tup, w_lst, w_call, w_callU, w_isi, w_meth, w_tru, w_bool, w_notS, w_andS, w_orS, w_ifx, w_andV, w_orV, w_notV, w_chain, wp_ok, wp_bad, wp_some, wp_none, wp_liftif, wp_if, asB_b, wp_noex, add_ii, sub_ii, mul_ii, fdiv_ii, mod_ii, pow_ii, neg_i, cmp_ii, lt_ii, le_ii, gt_ii, ge_ii, le_cc, muls_ii, muls_si, ins_cs, iadd_ii, isub_ii, w_onone, w_osome, w_sl, sl_s, sl_t, s_aug, eq_ss, len_s, ix_s, add_ss, str_s, tuple_t, list_t, is_n, not_n, non_n, non_i, non_b, non_s, non_t, non_r, abs_i, max_ii, min_ii, int_i, int_b, gcd_ii, len_t, ix_t, eq_v, ne_v, eq_ii, eq_bb, eq_nn, eq_in, eq_ni, iv_n_list, iv_n_tuple, iv_n_bool, iv_n_str, iv_n_int, okt_n, iv_b_list, iv_b_tuple, iv_b_bool, iv_b_str, iv_b_int, okt_b, iv_i_list, iv_i_tuple, iv_i_bool, iv_i_str, iv_i_int, okt_i, iv_s_list, iv_s_tuple, iv_s_bool, iv_s_str, iv_s_int, okt_s, iv_t_list, iv_t_tuple, iv_t_bool, iv_t_str, iv_t_int, okt_t, iv_r_list, iv_r_tuple, iv_r_bool, iv_r_str, iv_r_int, tru_b, tru_i, tru_n, tru_t, Option.map_some, Option.map_none, List.map_cons, List.map_nil, List.length_cons, List.length_nil, List.set_cons_zero, List.set_cons_succ, List.cons_append, List.nil_append, List.replicate, Nat.reduceAdd, Nat.reduceSub, Nat.reduceLeDiff, true_and, and_true, decide_eq_true_eq, reduceIte, Bool.false_eq_true, Bool.not_true, Bool.not_false, decide_true, decide_false]
      rw [eq_ints (seq_of_lst get_new) (seq_of_lst (get_old K))]
      try simp -dsimp only [at0, at1, at2, at3, at4, at5, at6, wp_fn, s_nil, s_brk, s_cnt, s_expr, s_ret, s_retN, s_if, s_asn, s_par, s_asg, g_nm, g_nil, g_cons, g_tupT, g_subW, w_v0, w_vS, w_c, w_op, w_un, w_anil, w_acons, w_tup, w_lst, w_call, w_callU, w_isi, w_meth, w_tru, w_bool, w_notS, w_andS, w_orS, w_ifx, w_andV, w_orV, w_notV, w_chain, wp_ok, wp_bad, wp_some, wp_none, wp_liftif, wp_if, asB_b, wp_noex, add_ii, sub_ii, mul_ii, fdiv_ii, mod_ii, pow_ii, neg_i, cmp_ii, lt_ii, le_ii, gt_ii, ge_ii, le_cc, muls_ii, muls_si, ins_cs, iadd_ii, isub_ii, w_onone, w_osome, w_sl, sl_s, sl_t, s_aug, eq_ss, len_s, ix_s, add_ss, str_s, tuple_t, list_t, is_n, not_n, non_n, non_i, non_b, non_s, non_t, non_r, abs_i, max_ii, min_ii, int_i, int_b, gcd_ii, len_t, ix_t, eq_v, ne_v, eq_ii, eq_bb, eq_nn, eq_in, eq_ni, iv_n_list, iv_n_tuple, iv_n_bool, iv_n_str, iv_n_int, okt_n, iv_b_list, iv_b_tuple, iv_b_bool, iv_b_str, iv_b_int, okt_b, iv_i_list, iv_i_tuple, iv_i_bool, iv_i_str, iv_i_int, okt_i, iv_s_list, iv_s_tuple, iv_s_bool, iv_s_str, iv_s_int, okt_s, iv_t_list, iv_t_tuple, iv_t_bool, iv_t_str, iv_t_int, okt_t, iv_r_list, iv_r_tuple, iv_r_bool, iv_r_str, iv_r_int, tru_b, tru_i, tru_n, tru_t, Option.map_some, Option.map_none, List.map_cons, List.map_nil, List.length_cons, List.length_nil, List.set_cons_zero, List.set_cons_succ, List.cons_append, List.nil_append, List.replicate, Nat.reduceAdd, Nat.reduceSub, Nat.reduceLeDiff, true_and, and_true, decide_eq_true_eq, reduceIte, Bool.false_eq_true, Bool.not_true, Bool.not_false, decide_true, decide_false]
      refine (lrecord_ok (get_old K) hBy).mono ?_
      rintro _ m3 ⟨k3, rfl, K3, _, G3⟩
      try simp -dsimp only [len_r (seq_of_lst K3), at0, at1, at2, at3, at4, at5, at6, wp_fn, s_nil, s_brk, s_cnt, s_expr, s_ret, s_retN, s_if, s_asn, s_par, s_asg, g_nm, g_nil, g_cons, g_tupT, g_subW, w_v0, w_vS, w_c, w_op, w_un, w_anil, w_acons, w_tup, w_lst, w_call, w_callU, w_isi, w_meth, w_tru, w_bool, w_notS, w_andS, w_orS, w_ifx, w_andV, w_orV, w_notV, w_chain, wp_ok, wp_bad, wp_some, wp_none, wp_liftif, wp_if, asB_b, wp_noex, add_ii, sub_ii, mul_ii, fdiv_ii, mod_ii, pow_ii, neg_i, cmp_ii, lt_ii, le_ii, gt_ii, ge_ii, le_cc, muls_ii, muls_si, ins_cs, iadd_ii, isub_ii, w_onone, w_osome, w_sl, sl_s, sl_t, s_aug, eq_ss, len_s, ix_s, add_ss, str_s, tuple_t, list_t, is_n, not_n, non_n, non_i, non_b, non_s, non_t, non_r, abs_i, max_ii, min_ii, int_i, int_b, gcd_ii, len_t, ix_t, eq_v, ne_v, eq_ii, eq_bb, eq_nn, eq_in, eq_ni, iv_n_list, iv_n_tuple, iv_n_bool, iv_n_str, iv_n_int, okt_n, iv_b_list, iv_b_tuple, iv_b_bool, iv_b_str, iv_b_int, okt_b, iv_i_list, iv_i_tuple, iv_i_bool, iv_i_str, iv_i_int, okt_i, iv_s_list, iv_s_tuple, iv_s_bool, iv_s_str, iv_s_int, okt_s, iv_t_list, iv_t_tuple, iv_t_bool, iv_t_str, iv_t_int, okt_t, iv_r_list, iv_r_tuple, iv_r_bool, iv_r_str, iv_r_int, tru_b, tru_i, tru_n, tru_t, Option.map_some, Option.map_none, List.map_cons, List.map_nil, List.length_cons, List.length_nil, List.set_cons_zero, List.set_cons_succ, List.cons_append, List.nil_append, List.replicate, Nat.reduceAdd, Nat.reduceSub, Nat.reduceLeDiff, true_and, and_true, decide_eq_true_eq, reduceIte, Bool.false_eq_true, Bool.not_true, Bool.not_false, decide_true, decide_false]
      rw [List.length_map, decide_eq_true (by omega)]
      try simp -dsimp only [at0, at1, at2, at3, at4, at5, at6, wp_fn, s_nil, s_brk, s_cnt, s_expr, s_ret, s_retN, s_if, s_asn, s_par, s_asg, g_nm, g_nil, g_cons, g_tupT, g_subW, w_v0, w_vS, w_c, w_op, w_un, w_anil, w_acons, w_tup, w_lst, w_call, w_callU, w_isi, w_meth, w_tru, w_bool, w_notS, w_andS, w_orS, w_ifx, w_andV, w_orV, w_notV, w_chain, wp_ok, wp_bad, wp_some, wp_none, wp_liftif, wp_if, asB_b, wp_noex, add_ii, sub_ii, mul_ii, fdiv_ii, mod_ii, pow_ii, neg_i, cmp_ii, lt_ii, le_ii, gt_ii, ge_ii, le_cc, muls_ii, muls_si, ins_cs, iadd_ii, isub_ii, w_onone, w_osome, w_sl, sl_s, sl_t, s_aug, eq_ss, len_s, ix_s, add_ss, str_s, tuple_t, list_t, is_n, not_n, non_n, non_i, non_b, non_s, non_t, non_r, abs_i, max_ii, min_ii, int_i, int_b, gcd_ii, len_t, ix_t, eq_v, ne_v, eq_ii, eq_bb, eq_nn, eq_in, eq_ni, iv_n_list, iv_n_tuple, iv_n_bool, iv_n_str, iv_n_int, okt_n, iv_b_list, iv_b_tuple, iv_b_bool, iv_b_str, iv_b_int, okt_b, iv_i_list, iv_i_tuple, iv_i_bool, iv_i_str, iv_i_int, okt_i, iv_s_list, iv_s_tuple, iv_s_bool, iv_s_str, iv_s_int, okt_s, iv_t_list, iv_t_tuple, iv_t_bool, iv_t_str, iv_t_int, okt_t, iv_r_list, iv_r_tuple, iv_r_bool, iv_r_str, iv_r_int, tru_b, tru_i, tru_n, tru_t, Option.map_some, Option.map_none, List.map_cons, List.map_nil, List.length_cons, List.length_nil, List.set_cons_zero, List.set_cons_succ, List.cons_append, List.nil_append, List.replicate, Nat.reduceAdd, Nat.reduceSub, Nat.reduceLeDiff, true_and, and_true, decide_eq_true_eq, reduceIte, Bool.false_eq_true, Bool.not_true, Bool.not_false, decide_true, decide_false]
      rw [← List.length_append, ← dataF_take hbj]
      exact ⟨_, _, rfl, (G.trans (G2.push _)).trans G3⟩
    · rintro l m' ⟨x4, x6, rfl, G⟩
      rw [hxl, List.take_length]
      exact ⟨_, _, rfl, G⟩
  · rintro l m' ⟨x4, x6, rfl, G⟩
    exact hs x4 x6 m' G
theorem set_mid {A B C : List PV} {i : Nat} {v : PV} (h : i < B.length) : (A ++ (B ++ C)).set (A.length + i) v = A ++ (B.set i v ++ C) := by
  rw [List.set_append_right _ _ (by omega), Nat.add_sub_cancel_left, List.set_append_left _ _ h]
theorem setl_r {m : MH} {n j : Nat} {xs : List PV} {i : Int} {v : PV} (h : lst? m n = some xs) (hj : ixN xs.length i = some j) : setv (.ref n) (.int i) v m = some (m.set n (.lst (xs.set j v))) := by
  show (match lst? m n with | some xs => _ | none => none) = _
  rw [h]
  dsimp only
  rw [hj]
  rfl
theorem ixN_nat {n j : Nat} (h : j < n) : ixN n ((j : Nat) : Int) = some j := by
  unfold ixN
  rw [if_pos (by omega), if_pos (by omega)]
  rfl
theorem cut_hd {xs : List PV} {i : Nat} (h : i ≤ xs.length) : cut xs none (some ((i : Nat) : Int)) = xs.take i := by
  have e : HT.sIx xs.length xs.length (some ((i : Nat) : Int)) = i := by
    simp only [HT.sIx]
    rw [if_neg (by omega)]
    omega
  unfold cut
  rw [e]
  have e2 : HT.sIx xs.length 0 none = 0 := by simp [HT.sIx]
  rw [e2]
  rfl
theorem law_true {ns : List Int} : WP (f_law [.ref 0] [.frz (ns.map .int)]) (fun x _ => x = .bl true) NoE := by
  have h0 : ([MO.frz (ns.map .int)] : MH)[0]? = some (.frz (ns.map .int)) := rfl
  generalize [MO.frz (ns.map .int)] = m at *
  unfold f_law b_law
  try simp -dsimp only [at0, at1, at2, at3, at4, at5, at6, wp_fn, s_nil, s_brk, s_cnt, s_expr, s_ret, s_retN, s_if, s_asn, s_par, s_asg, g_nm, g_nil, g_cons, g_tupT, g_subW, w_v0, w_vS, w_c, w_op, w_un, w_anil, w_acons, w_tup, w_lst, w_call, w_callU, w_isi, w_meth, w_tru, w_bool, w_notS, w_andS, w_orS, w_ifx, w_andV, w_orV, w_notV, w_chain, wp_ok, wp_bad, wp_some, wp_none, wp_liftif, wp_if, asB_b, wp_noex, add_ii, sub_ii, mul_ii, fdiv_ii, mod_ii, pow_ii, neg_i, cmp_ii, lt_ii, le_ii, gt_ii, ge_ii, le_cc, muls_ii, muls_si, ins_cs, iadd_ii, isub_ii, w_onone, w_osome, w_sl, sl_s, sl_t, s_aug, eq_ss, len_s, ix_s, add_ss, str_s, tuple_t, list_t, is_n, not_n, non_n, non_i, non_b, non_s, non_t, non_r, abs_i, max_ii, min_ii, int_i, int_b, gcd_ii, len_t, ix_t, eq_v, ne_v, eq_ii, eq_bb, eq_nn, eq_in, eq_ni, iv_n_list, iv_n_tuple, iv_n_bool, iv_n_str, iv_n_int, okt_n, iv_b_list, iv_b_tuple, iv_b_bool, iv_b_str, iv_b_int, okt_b, iv_i_list, iv_i_tuple, iv_i_bool, iv_i_str, iv_i_int, okt_i, iv_s_list, iv_s_tuple, iv_s_bool, iv_s_str, iv_s_int, okt_s, iv_t_list, iv_t_tuple, iv_t_bool, iv_t_str, iv_t_int, okt_t, iv_r_list, iv_r_tuple, iv_r_bool, iv_r_str, iv_r_int, tru_b, tru_i, tru_n, tru_t, Option.map_some, Option.map_none, List.map_cons, List.map_nil, List.length_cons, List.length_nil, List.set_cons_zero, List.set_cons_succ, List.cons_append, List.nil_append, List.replicate, Nat.reduceAdd, Nat.reduceSub, Nat.reduceLeDiff, true_and, and_true, decide_eq_true_eq, reduceIte, Bool.false_eq_true, Bool.not_true, Bool.not_false, decide_true, decide_false]
  refine law1 h0 (fun x1 m1 G1 => ?_) (fun m' => by simp)
  have h0 := G1.get _ _ h0
  rw [s_seq]
  try simp -dsimp only [at0, at1, at2, at3, at4, at5, at6, wp_fn, s_nil, s_brk, s_cnt, s_expr, s_ret, s_retN, s_if, s_asn, s_par, s_asg, g_nm, g_nil, g_cons, g_tupT, g_subW, w_v0, w_vS, w_c, w_op, w_un, w_anil, w_acons, w_tup, w_lst, w_call, w_callU, w_isi, w_meth, w_tru, w_bool, w_notS, w_andS, w_orS, w_ifx, w_andV, w_orV, w_notV, w_chain, wp_ok, wp_bad, wp_some, wp_none, wp_liftif, wp_if, asB_b, wp_noex, add_ii, sub_ii, mul_ii, fdiv_ii, mod_ii, pow_ii, neg_i, cmp_ii, lt_ii, le_ii, gt_ii, ge_ii, le_cc, muls_ii, muls_si, ins_cs, iadd_ii, isub_ii, w_onone, w_osome, w_sl, sl_s, sl_t, s_aug, eq_ss, len_s, ix_s, add_ss, str_s, tuple_t, list_t, is_n, not_n, non_n, non_i, non_b, non_s, non_t, non_r, abs_i, max_ii, min_ii, int_i, int_b, gcd_ii, len_t, ix_t, eq_v, ne_v, eq_ii, eq_bb, eq_nn, eq_in, eq_ni, iv_n_list, iv_n_tuple, iv_n_bool, iv_n_str, iv_n_int, okt_n, iv_b_list, iv_b_tuple, iv_b_bool, iv_b_str, iv_b_int, okt_b, iv_i_list, iv_i_tuple, iv_i_bool, iv_i_str, iv_i_int, okt_i, iv_s_list, iv_s_tuple, iv_s_bool, iv_s_str, iv_s_int, okt_s, iv_t_list, iv_t_tuple, iv_t_bool, iv_t_str, iv_t_int, okt_t, iv_r_list, iv_r_tuple, iv_r_bool, iv_r_str, iv_r_int, tru_b, tru_i, tru_n, tru_t, Option.map_some, Option.map_none, List.map_cons, List.map_nil, List.length_cons, List.length_nil, List.set_cons_zero, List.set_cons_succ, List.cons_append, List.nil_append, List.replicate, Nat.reduceAdd, Nat.reduceSub, Nat.reduceLeDiff, true_and, and_true, decide_eq_true_eq, reduceIte, Bool.false_eq_true, Bool.not_true, Bool.not_false, decide_true, decide_false]
  refine (lbodies_ok h0).mono ?_
  rintro _ m2 ⟨xs, bs, rfl, P, hB, hb0, hb4, G2⟩
  have h0 := G2.get _ _ h0
  generalize m1.length = lo at *
  try simp -dsimp only [at0, at1, at2, at3, at4, at5, at6, wp_fn, s_nil, s_brk, s_cnt, s_expr, s_ret, s_retN, s_if, s_asn, s_par, s_asg, g_nm, g_nil, g_cons, g_tupT, g_subW, w_v0, w_vS, w_c, w_op, w_un, w_anil, w_acons, w_tup, w_lst, w_call, w_callU, w_isi, w_meth, w_tru, w_bool, w_notS, w_andS, w_orS, w_ifx, w_andV, w_orV, w_notV, w_chain, wp_ok, wp_bad, wp_some, wp_none, wp_liftif, wp_if, asB_b, wp_noex, add_ii, sub_ii, mul_ii, fdiv_ii, mod_ii, pow_ii, neg_i, cmp_ii, lt_ii, le_ii, gt_ii, ge_ii, le_cc, muls_ii, muls_si, ins_cs, iadd_ii, isub_ii, w_onone, w_osome, w_sl, sl_s, sl_t, s_aug, eq_ss, len_s, ix_s, add_ss, str_s, tuple_t, list_t, is_n, not_n, non_n, non_i, non_b, non_s, non_t, non_r, abs_i, max_ii, min_ii, int_i, int_b, gcd_ii, len_t, ix_t, eq_v, ne_v, eq_ii, eq_bb, eq_nn, eq_in, eq_ni, iv_n_list, iv_n_tuple, iv_n_bool, iv_n_str, iv_n_int, okt_n, iv_b_list, iv_b_tuple, iv_b_bool, iv_b_str, iv_b_int, okt_b, iv_i_list, iv_i_tuple, iv_i_bool, iv_i_str, iv_i_int, okt_i, iv_s_list, iv_s_tuple, iv_s_bool, iv_s_str, iv_s_int, okt_s, iv_t_list, iv_t_tuple, iv_t_bool, iv_t_str, iv_t_int, okt_t, iv_r_list, iv_r_tuple, iv_r_bool, iv_r_str, iv_r_int, tru_b, tru_i, tru_n, tru_t, Option.map_some, Option.map_none, List.map_cons, List.map_nil, List.length_cons, List.length_nil, List.set_cons_zero, List.set_cons_succ, List.cons_append, List.nil_append, List.replicate, Nat.reduceAdd, Nat.reduceSub, Nat.reduceLeDiff, true_and, and_true, decide_eq_true_eq, reduceIte, Bool.false_eq_true, Bool.not_true, Bool.not_false, decide_true, decide_false]
  rw [s_seq]
  try simp -dsimp only [at0, at1, at2, at3, at4, at5, at6, wp_fn, s_nil, s_brk, s_cnt, s_expr, s_ret, s_retN, s_if, s_asn, s_par, s_asg, g_nm, g_nil, g_cons, g_tupT, g_subW, w_v0, w_vS, w_c, w_op, w_un, w_anil, w_acons, w_tup, w_lst, w_call, w_callU, w_isi, w_meth, w_tru, w_bool, w_notS, w_andS, w_orS, w_ifx, w_andV, w_orV, w_notV, w_chain, wp_ok, wp_bad, wp_some, wp_none, wp_liftif, wp_if, asB_b, wp_noex, add_ii, sub_ii, mul_ii, fdiv_ii, mod_ii, pow_ii, neg_i, cmp_ii, lt_ii, le_ii, gt_ii, ge_ii, le_cc, muls_ii, muls_si, ins_cs, iadd_ii, isub_ii, w_onone, w_osome, w_sl, sl_s, sl_t, s_aug, eq_ss, len_s, ix_s, add_ss, str_s, tuple_t, list_t, is_n, not_n, non_n, non_i, non_b, non_s, non_t, non_r, abs_i, max_ii, min_ii, int_i, int_b, gcd_ii, len_t, ix_t, eq_v, ne_v, eq_ii, eq_bb, eq_nn, eq_in, eq_ni, iv_n_list, iv_n_tuple, iv_n_bool, iv_n_str, iv_n_int, okt_n, iv_b_list, iv_b_tuple, iv_b_bool, iv_b_str, iv_b_int, okt_b, iv_i_list, iv_i_tuple, iv_i_bool, iv_i_str, iv_i_int, okt_i, iv_s_list, iv_s_tuple, iv_s_bool, iv_s_str, iv_s_int, okt_s, iv_t_list, iv_t_tuple, iv_t_bool, iv_t_str, iv_t_int, okt_t, iv_r_list, iv_r_tuple, iv_r_bool, iv_r_str, iv_r_int, tru_b, tru_i, tru_n, tru_t, Option.map_some, Option.map_none, List.map_cons, List.map_nil, List.length_cons, List.length_nil, List.set_cons_zero, List.set_cons_succ, List.cons_append, List.nil_append, List.replicate, Nat.reduceAdd, Nat.reduceSub, Nat.reduceLeDiff, true_and, and_true, decide_eq_true_eq, reduceIte, Bool.false_eq_true, Bool.not_true, Bool.not_false, decide_true, decide_false]
  refine law2 (get_old P) (hB.mono Gr.one) hb4 get_new fun d x4 m3 hd G3 => ?_
  have G3 := Gr.one.trans G3
  have P := G3.get _ _ P
  have hB := hB.mono G3
  have h0 := G3.get _ _ h0
  rw [s_seq]
  try simp -dsimp only [at0, at1, at2, at3, at4, at5, at6, wp_fn, s_nil, s_brk, s_cnt, s_expr, s_ret, s_retN, s_if, s_asn, s_par, s_asg, g_nm, g_nil, g_cons, g_tupT, g_subW, w_v0, w_vS, w_c, w_op, w_un, w_anil, w_acons, w_tup, w_lst, w_call, w_callU, w_isi, w_meth, w_tru, w_bool, w_notS, w_andS, w_orS, w_ifx, w_andV, w_orV, w_notV, w_chain, wp_ok, wp_bad, wp_some, wp_none, wp_liftif, wp_if, asB_b, wp_noex, add_ii, sub_ii, mul_ii, fdiv_ii, mod_ii, pow_ii, neg_i, cmp_ii, lt_ii, le_ii, gt_ii, ge_ii, le_cc, muls_ii, muls_si, ins_cs, iadd_ii, isub_ii, w_onone, w_osome, w_sl, sl_s, sl_t, s_aug, eq_ss, len_s, ix_s, add_ss, str_s, tuple_t, list_t, is_n, not_n, non_n, non_i, non_b, non_s, non_t, non_r, abs_i, max_ii, min_ii, int_i, int_b, gcd_ii, len_t, ix_t, eq_v, ne_v, eq_ii, eq_bb, eq_nn, eq_in, eq_ni, iv_n_list, iv_n_tuple, iv_n_bool, iv_n_str, iv_n_int, okt_n, iv_b_list, iv_b_tuple, iv_b_bool, iv_b_str, iv_b_int, okt_b, iv_i_list, iv_i_tuple, iv_i_bool, iv_i_str, iv_i_int, okt_i, iv_s_list, iv_s_tuple, iv_s_bool, iv_s_str, iv_s_int, okt_s, iv_t_list, iv_t_tuple, iv_t_bool, iv_t_str, iv_t_int, okt_t, iv_r_list, iv_r_tuple, iv_r_bool, iv_r_str, iv_r_int, tru_b, tru_i, tru_n, tru_t, Option.map_some, Option.map_none, List.map_cons, List.map_nil, List.length_cons, List.length_nil, List.set_cons_zero, List.set_cons_succ, List.cons_append, List.nil_append, List.replicate, Nat.reduceAdd, Nat.reduceSub, Nat.reduceLeDiff, true_and, and_true, decide_eq_true_eq, reduceIte, Bool.false_eq_true, Bool.not_true, Bool.not_false, decide_true, decide_false]
  refine law3 P hB hb4 hd fun x4 x6 m4 G4 => ?_
  have P := G4.get _ _ P
  have hd := G4.get _ _ hd
  have hB := hB.mono G4
  have h0 := G4.get _ _ h0
  have hall := hB.all
  have hdl := dataF_len hall
  obtain ⟨k, b, ex, _, ebb, K, hBy⟩ := hB.at_ 0 _ (List.getElem?_eq_getElem (show 0 < xs.length by rw [hB.len]; exact hb0))
  have eix : ∀ m' : MH, m'[lo]? = some (.lst xs) → ixv (.ref lo) (.int 0) m' = some (.ref k, m') := by
    intro m' h
    have : atI xs 0 = some (.ref k) := by
      rw [← ex]
      exact atI_nat (j := 0) (List.getElem?_eq_getElem _)
    rw [ix_r (seq_of_lst h), this]
    rfl
  have hrl := recF_len hBy
  rw [s_seq]
  try simp -dsimp only [at0, at1, at2, at3, at4, at5, at6, wp_fn, s_nil, s_brk, s_cnt, s_expr, s_ret, s_retN, s_if, s_asn, s_par, s_asg, g_nm, g_nil, g_cons, g_tupT, g_subW, w_v0, w_vS, w_c, w_op, w_un, w_anil, w_acons, w_tup, w_lst, w_call, w_callU, w_isi, w_meth, w_tru, w_bool, w_notS, w_andS, w_orS, w_ifx, w_andV, w_orV, w_notV, w_chain, wp_ok, wp_bad, wp_some, wp_none, wp_liftif, wp_if, asB_b, wp_noex, add_ii, sub_ii, mul_ii, fdiv_ii, mod_ii, pow_ii, neg_i, cmp_ii, lt_ii, le_ii, gt_ii, ge_ii, le_cc, muls_ii, muls_si, ins_cs, iadd_ii, isub_ii, w_onone, w_osome, w_sl, sl_s, sl_t, s_aug, eq_ss, len_s, ix_s, add_ss, str_s, tuple_t, list_t, is_n, not_n, non_n, non_i, non_b, non_s, non_t, non_r, abs_i, max_ii, min_ii, int_i, int_b, gcd_ii, len_t, ix_t, eq_v, ne_v, eq_ii, eq_bb, eq_nn, eq_in, eq_ni, iv_n_list, iv_n_tuple, iv_n_bool, iv_n_str, iv_n_int, okt_n, iv_b_list, iv_b_tuple, iv_b_bool, iv_b_str, iv_b_int, okt_b, iv_i_list, iv_i_tuple, iv_i_bool, iv_i_str, iv_i_int, okt_i, iv_s_list, iv_s_tuple, iv_s_bool, iv_s_str, iv_s_int, okt_s, iv_t_list, iv_t_tuple, iv_t_bool, iv_t_str, iv_t_int, okt_t, iv_r_list, iv_r_tuple, iv_r_bool, iv_r_str, iv_r_int, tru_b, tru_i, tru_n, tru_t, Option.map_some, Option.map_none, List.map_cons, List.map_nil, List.length_cons, List.length_nil, List.set_cons_zero, List.set_cons_succ, List.cons_append, List.nil_append, List.replicate, Nat.reduceAdd, Nat.reduceSub, Nat.reduceLeDiff, true_and, and_true, decide_eq_true_eq, reduceIte, Bool.false_eq_true, Bool.not_true, Bool.not_false, decide_true, decide_false]
  rw [eix _ P]
  try simp -dsimp only [at0, at1, at2, at3, at4, at5, at6, wp_fn, s_nil, s_brk, s_cnt, s_expr, s_ret, s_retN, s_if, s_asn, s_par, s_asg, g_nm, g_nil, g_cons, g_tupT, g_subW, w_v0, w_vS, w_c, w_op, w_un, w_anil, w_acons, w_tup, w_lst, w_call, w_callU, w_isi, w_meth, w_tru, w_bool, w_notS, w_andS, w_orS, w_ifx, w_andV, w_orV, w_notV, w_chain, wp_ok, wp_bad, wp_some, wp_none, wp_liftif, wp_if, asB_b, wp_noex, add_ii, sub_ii, mul_ii, fdiv_ii, mod_ii, pow_ii, neg_i, cmp_ii, lt_ii, le_ii, gt_ii, ge_ii, le_cc, muls_ii, muls_si, ins_cs, iadd_ii, isub_ii, w_onone, w_osome, w_sl, sl_s, sl_t, s_aug, eq_ss, len_s, ix_s, add_ss, str_s, tuple_t, list_t, is_n, not_n, non_n, non_i, non_b, non_s, non_t, non_r, abs_i, max_ii, min_ii, int_i, int_b, gcd_ii, len_t, ix_t, eq_v, ne_v, eq_ii, eq_bb, eq_nn, eq_in, eq_ni, iv_n_list, iv_n_tuple, iv_n_bool, iv_n_str, iv_n_int, okt_n, iv_b_list, iv_b_tuple, iv_b_bool, iv_b_str, iv_b_int, okt_b, iv_i_list, iv_i_tuple, iv_i_bool, iv_i_str, iv_i_int, okt_i, iv_s_list, iv_s_tuple, iv_s_bool, iv_s_str, iv_s_int, okt_s, iv_t_list, iv_t_tuple, iv_t_bool, iv_t_str, iv_t_int, okt_t, iv_r_list, iv_r_tuple, iv_r_bool, iv_r_str, iv_r_int, tru_b, tru_i, tru_n, tru_t, Option.map_some, Option.map_none, List.map_cons, List.map_nil, List.length_cons, List.length_nil, List.set_cons_zero, List.set_cons_succ, List.cons_append, List.nil_append, List.replicate, Nat.reduceAdd, Nat.reduceSub, Nat.reduceLeDiff, true_and, and_true, decide_eq_true_eq, reduceIte, Bool.false_eq_true, Bool.not_true, Bool.not_false, decide_true, decide_false]
  refine (lrecord_ok K hBy).mono ?_
  rintro _ m5 ⟨o, rfl, O, _, G5⟩
  have P := G5.get _ _ P
  have hd := G5.get _ _ hd
  have h0 := G5.get _ _ h0
  have K := G5.get _ _ K
  try simp -dsimp only [at0, at1, at2, at3, at4, at5, at6, wp_fn, s_nil, s_brk, s_cnt, s_expr, s_ret, s_retN, s_if, s_asn, s_par, s_asg, g_nm, g_nil, g_cons, g_tupT, g_subW, w_v0, w_vS, w_c, w_op, w_un, w_anil, w_acons, w_tup, w_lst, w_call, w_callU, w_isi, w_meth, w_tru, w_bool, w_notS, w_andS, w_orS, w_ifx, w_andV, w_orV, w_notV, w_chain, wp_ok, wp_bad, wp_some, wp_none, wp_liftif, wp_if, asB_b, wp_noex, add_ii, sub_ii, mul_ii, fdiv_ii, mod_ii, pow_ii, neg_i, cmp_ii, lt_ii, le_ii, gt_ii, ge_ii, le_cc, muls_ii, muls_si, ins_cs, iadd_ii, isub_ii, w_onone, w_osome, w_sl, sl_s, sl_t, s_aug, eq_ss, len_s, ix_s, add_ss, str_s, tuple_t, list_t, is_n, not_n, non_n, non_i, non_b, non_s, non_t, non_r, abs_i, max_ii, min_ii, int_i, int_b, gcd_ii, len_t, ix_t, eq_v, ne_v, eq_ii, eq_bb, eq_nn, eq_in, eq_ni, iv_n_list, iv_n_tuple, iv_n_bool, iv_n_str, iv_n_int, okt_n, iv_b_list, iv_b_tuple, iv_b_bool, iv_b_str, iv_b_int, okt_b, iv_i_list, iv_i_tuple, iv_i_bool, iv_i_str, iv_i_int, okt_i, iv_s_list, iv_s_tuple, iv_s_bool, iv_s_str, iv_s_int, okt_s, iv_t_list, iv_t_tuple, iv_t_bool, iv_t_str, iv_t_int, okt_t, iv_r_list, iv_r_tuple, iv_r_bool, iv_r_str, iv_r_int, tru_b, tru_i, tru_n, tru_t, Option.map_some, Option.map_none, List.map_cons, List.map_nil, List.length_cons, List.length_nil, List.set_cons_zero, List.set_cons_succ, List.cons_append, List.nil_append, List.replicate, Nat.reduceAdd, Nat.reduceSub, Nat.reduceLeDiff, true_and, and_true, decide_eq_true_eq, reduceIte, Bool.false_eq_true, Bool.not_true, Bool.not_false, decide_true, decide_false]
  rw [s_seq]
  try simp -dsimp only [at0, at1, at2, at3, at4, at5, at6, wp_fn, s_nil, s_brk, s_cnt, s_expr, s_ret, s_retN, s_if, s_asn, s_par, s_asg, g_nm, g_nil, g_cons, g_tupT, g_subW, w_v0, w_vS, w_c, w_op, w_un, w_anil, w_acons, w_tup, w_lst, w_call, w_callU, w_isi, w_meth, w_tru, w_bool, w_notS, w_andS, w_orS, w_ifx, w_andV, w_orV, w_notV, w_chain, wp_ok, wp_bad, wp_some, wp_none, wp_liftif, wp_if, asB_b, wp_noex, add_ii, sub_ii, mul_ii, fdiv_ii, mod_ii, pow_ii, neg_i, cmp_ii, lt_ii, le_ii, gt_ii, ge_ii, le_cc, muls_ii, muls_si, ins_cs, iadd_ii, isub_ii, w_onone, w_osome, w_sl, sl_s, sl_t, s_aug, eq_ss, len_s, ix_s, add_ss, str_s, tuple_t, list_t, is_n, not_n, non_n, non_i, non_b, non_s, non_t, non_r, abs_i, max_ii, min_ii, int_i, int_b, gcd_ii, len_t, ix_t, eq_v, ne_v, eq_ii, eq_bb, eq_nn, eq_in, eq_ni, iv_n_list, iv_n_tuple, iv_n_bool, iv_n_str, iv_n_int, okt_n, iv_b_list, iv_b_tuple, iv_b_bool, iv_b_str, iv_b_int, okt_b, iv_i_list, iv_i_tuple, iv_i_bool, iv_i_str, iv_i_int, okt_i, iv_s_list, iv_s_tuple, iv_s_bool, iv_s_str, iv_s_int, okt_s, iv_t_list, iv_t_tuple, iv_t_bool, iv_t_str, iv_t_int, okt_t, iv_r_list, iv_r_tuple, iv_r_bool, iv_r_str, iv_r_int, tru_b, tru_i, tru_n, tru_t, Option.map_some, Option.map_none, List.map_cons, List.map_nil, List.length_cons, List.length_nil, List.set_cons_zero, List.set_cons_succ, List.cons_append, List.nil_append, List.replicate, Nat.reduceAdd, Nat.reduceSub, Nat.reduceLeDiff, true_and, and_true, decide_eq_true_eq, reduceIte, Bool.false_eq_true, Bool.not_true, Bool.not_false, decide_true, decide_false]
  refine (cell_ok (seq_of_frz h0) (by decide)).mono ?_
  rintro _ m5 ⟨rfl, rfl⟩
  generalize ns.getD (Int.toNat 15) 0 = c15
  try simp -dsimp only [len_r (seq_of_lst O), at0, at1, at2, at3, at4, at5, at6, wp_fn, s_nil, s_brk, s_cnt, s_expr, s_ret, s_retN, s_if, s_asn, s_par, s_asg, g_nm, g_nil, g_cons, g_tupT, g_subW, w_v0, w_vS, w_c, w_op, w_un, w_anil, w_acons, w_tup, w_lst, w_call, w_callU, w_isi, w_meth, w_tru, w_bool, w_notS, w_andS, w_orS, w_ifx, w_andV, w_orV, w_notV, w_chain, wp_ok, wp_bad, wp_some, wp_none, wp_liftif, wp_if, asB_b, wp_noex, add_ii, sub_ii, mul_ii, fdiv_ii, mod_ii, pow_ii, neg_i, cmp_ii, lt_ii, le_ii, gt_ii, ge_ii, le_cc, muls_ii, muls_si, ins_cs, iadd_ii, isub_ii, w_onone, w_osome, w_sl, sl_s, sl_t, s_aug, eq_ss, len_s, ix_s, add_ss, str_s, tuple_t, list_t, is_n, not_n, non_n, non_i, non_b, non_s, non_t, non_r, abs_i, max_ii, min_ii, int_i, int_b, gcd_ii, len_t, ix_t, eq_v, ne_v, eq_ii, eq_bb, eq_nn, eq_in, eq_ni, iv_n_list, iv_n_tuple, iv_n_bool, iv_n_str, iv_n_int, okt_n, iv_b_list, iv_b_tuple, iv_b_bool, iv_b_str, iv_b_int, okt_b, iv_i_list, iv_i_tuple, iv_i_bool, iv_i_str, iv_i_int, okt_i, iv_s_list, iv_s_tuple, iv_s_bool, iv_s_str, iv_s_int, okt_s, iv_t_list, iv_t_tuple, iv_t_bool, iv_t_str, iv_t_int, okt_t, iv_r_list, iv_r_tuple, iv_r_bool, iv_r_str, iv_r_int, tru_b, tru_i, tru_n, tru_t, Option.map_some, Option.map_none, List.map_cons, List.map_nil, List.length_cons, List.length_nil, List.set_cons_zero, List.set_cons_succ, List.cons_append, List.nil_append, List.replicate, Nat.reduceAdd, Nat.reduceSub, Nat.reduceLeDiff, true_and, and_true, decide_eq_true_eq, reduceIte, Bool.false_eq_true, Bool.not_true, Bool.not_false, decide_true, decide_false]
  rw [List.length_map, if_pos (by omega), fmod_pos (by omega)]
  try simp -dsimp only [at0, at1, at2, at3, at4, at5, at6, wp_fn, s_nil, s_brk, s_cnt, s_expr, s_ret, s_retN, s_if, s_asn, s_par, s_asg, g_nm, g_nil, g_cons, g_tupT, g_subW, w_v0, w_vS, w_c, w_op, w_un, w_anil, w_acons, w_tup, w_lst, w_call, w_callU, w_isi, w_meth, w_tru, w_bool, w_notS, w_andS, w_orS, w_ifx, w_andV, w_orV, w_notV, w_chain, wp_ok, wp_bad, wp_some, wp_none, wp_liftif, wp_if, asB_b, wp_noex, add_ii, sub_ii, mul_ii, fdiv_ii, mod_ii, pow_ii, neg_i, cmp_ii, lt_ii, le_ii, gt_ii, ge_ii, le_cc, muls_ii, muls_si, ins_cs, iadd_ii, isub_ii, w_onone, w_osome, w_sl, sl_s, sl_t, s_aug, eq_ss, len_s, ix_s, add_ss, str_s, tuple_t, list_t, is_n, not_n, non_n, non_i, non_b, non_s, non_t, non_r, abs_i, max_ii, min_ii, int_i, int_b, gcd_ii, len_t, ix_t, eq_v, ne_v, eq_ii, eq_bb, eq_nn, eq_in, eq_ni, iv_n_list, iv_n_tuple, iv_n_bool, iv_n_str, iv_n_int, okt_n, iv_b_list, iv_b_tuple, iv_b_bool, iv_b_str, iv_b_int, okt_b, iv_i_list, iv_i_tuple, iv_i_bool, iv_i_str, iv_i_int, okt_i, iv_s_list, iv_s_tuple, iv_s_bool, iv_s_str, iv_s_int, okt_s, iv_t_list, iv_t_tuple, iv_t_bool, iv_t_str, iv_t_int, okt_t, iv_r_list, iv_r_tuple, iv_r_bool, iv_r_str, iv_r_int, tru_b, tru_i, tru_n, tru_t, Option.map_some, Option.map_none, List.map_cons, List.map_nil, List.length_cons, List.length_nil, List.set_cons_zero, List.set_cons_succ, List.cons_append, List.nil_append, List.replicate, Nat.reduceAdd, Nat.reduceSub, Nat.reduceLeDiff, true_and, and_true, decide_eq_true_eq, reduceIte, Bool.false_eq_true, Bool.not_true, Bool.not_false, decide_true, decide_false]
  obtain ⟨ct, hct⟩ := Int.eq_ofNat_of_zero_le (Int.emod_nonneg c15 (b := ((recF b).length : Nat)) (by omega))
  have hct2 := Int.emod_lt_of_pos c15 (b := ((recF b).length : Nat)) (by omega)
  rw [hct] at hct2 ⊢
  rw [s_seq]
  try simp -dsimp only [list_r (seq_of_lst hd), at0, at1, at2, at3, at4, at5, at6, wp_fn, s_nil, s_brk, s_cnt, s_expr, s_ret, s_retN, s_if, s_asn, s_par, s_asg, g_nm, g_nil, g_cons, g_tupT, g_subW, w_v0, w_vS, w_c, w_op, w_un, w_anil, w_acons, w_tup, w_lst, w_call, w_callU, w_isi, w_meth, w_tru, w_bool, w_notS, w_andS, w_orS, w_ifx, w_andV, w_orV, w_notV, w_chain, wp_ok, wp_bad, wp_some, wp_none, wp_liftif, wp_if, asB_b, wp_noex, add_ii, sub_ii, mul_ii, fdiv_ii, mod_ii, pow_ii, neg_i, cmp_ii, lt_ii, le_ii, gt_ii, ge_ii, le_cc, muls_ii, muls_si, ins_cs, iadd_ii, isub_ii, w_onone, w_osome, w_sl, sl_s, sl_t, s_aug, eq_ss, len_s, ix_s, add_ss, str_s, tuple_t, list_t, is_n, not_n, non_n, non_i, non_b, non_s, non_t, non_r, abs_i, max_ii, min_ii, int_i, int_b, gcd_ii, len_t, ix_t, eq_v, ne_v, eq_ii, eq_bb, eq_nn, eq_in, eq_ni, iv_n_list, iv_n_tuple, iv_n_bool, iv_n_str, iv_n_int, okt_n, iv_b_list, iv_b_tuple, iv_b_bool, iv_b_str, iv_b_int, okt_b, iv_i_list, iv_i_tuple, iv_i_bool, iv_i_str, iv_i_int, okt_i, iv_s_list, iv_s_tuple, iv_s_bool, iv_s_str, iv_s_int, okt_s, iv_t_list, iv_t_tuple, iv_t_bool, iv_t_str, iv_t_int, okt_t, iv_r_list, iv_r_tuple, iv_r_bool, iv_r_str, iv_r_int, tru_b, tru_i, tru_n, tru_t, Option.map_some, Option.map_none, List.map_cons, List.map_nil, List.length_cons, List.length_nil, List.set_cons_zero, List.set_cons_succ, List.cons_append, List.nil_append, List.replicate, Nat.reduceAdd, Nat.reduceSub, Nat.reduceLeDiff, true_and, and_true, decide_eq_true_eq, reduceIte, Bool.false_eq_true, Bool.not_true, Bool.not_false, decide_true, decide_false]
  refine (readrec_ok get_new (dataF_by hall) (by omega) (by omega) (rn_none rr_end)).mono ?_
  rintro _ m6 ⟨hn, _, G6⟩
  cases hn (rr_none rr_end)
  have G6 := Gr.one.trans G6
  have P := G6.get _ _ P
  have O := G6.get _ _ O
  have h0 := G6.get _ _ h0
  have K := G6.get _ _ K
  try simp -dsimp only [at0, at1, at2, at3, at4, at5, at6, wp_fn, s_nil, s_brk, s_cnt, s_expr, s_ret, s_retN, s_if, s_asn, s_par, s_asg, g_nm, g_nil, g_cons, g_tupT, g_subW, w_v0, w_vS, w_c, w_op, w_un, w_anil, w_acons, w_tup, w_lst, w_call, w_callU, w_isi, w_meth, w_tru, w_bool, w_notS, w_andS, w_orS, w_ifx, w_andV, w_orV, w_notV, w_chain, wp_ok, wp_bad, wp_some, wp_none, wp_liftif, wp_if, asB_b, wp_noex, add_ii, sub_ii, mul_ii, fdiv_ii, mod_ii, pow_ii, neg_i, cmp_ii, lt_ii, le_ii, gt_ii, ge_ii, le_cc, muls_ii, muls_si, ins_cs, iadd_ii, isub_ii, w_onone, w_osome, w_sl, sl_s, sl_t, s_aug, eq_ss, len_s, ix_s, add_ss, str_s, tuple_t, list_t, is_n, not_n, non_n, non_i, non_b, non_s, non_t, non_r, abs_i, max_ii, min_ii, int_i, int_b, gcd_ii, len_t, ix_t, eq_v, ne_v, eq_ii, eq_bb, eq_nn, eq_in, eq_ni, iv_n_list, iv_n_tuple, iv_n_bool, iv_n_str, iv_n_int, okt_n, iv_b_list, iv_b_tuple, iv_b_bool, iv_b_str, iv_b_int, okt_b, iv_i_list, iv_i_tuple, iv_i_bool, iv_i_str, iv_i_int, okt_i, iv_s_list, iv_s_tuple, iv_s_bool, iv_s_str, iv_s_int, okt_s, iv_t_list, iv_t_tuple, iv_t_bool, iv_t_str, iv_t_int, okt_t, iv_r_list, iv_r_tuple, iv_r_bool, iv_r_str, iv_r_int, tru_b, tru_i, tru_n, tru_t, Option.map_some, Option.map_none, List.map_cons, List.map_nil, List.length_cons, List.length_nil, List.set_cons_zero, List.set_cons_succ, List.cons_append, List.nil_append, List.replicate, Nat.reduceAdd, Nat.reduceSub, Nat.reduceLeDiff, true_and, and_true, decide_eq_true_eq, reduceIte, Bool.false_eq_true, Bool.not_true, Bool.not_false, decide_true, decide_false]
  rw [slr_r (seq_of_lst O), cut_hd (by rw [List.length_map]; omega), ← List.map_take]
  try simp -dsimp only [at0, at1, at2, at3, at4, at5, at6, wp_fn, s_nil, s_brk, s_cnt, s_expr, s_ret, s_retN, s_if, s_asn, s_par, s_asg, g_nm, g_nil, g_cons, g_tupT, g_subW, w_v0, w_vS, w_c, w_op, w_un, w_anil, w_acons, w_tup, w_lst, w_call, w_callU, w_isi, w_meth, w_tru, w_bool, w_notS, w_andS, w_orS, w_ifx, w_andV, w_orV, w_notV, w_chain, wp_ok, wp_bad, wp_some, wp_none, wp_liftif, wp_if, asB_b, wp_noex, add_ii, sub_ii, mul_ii, fdiv_ii, mod_ii, pow_ii, neg_i, cmp_ii, lt_ii, le_ii, gt_ii, ge_ii, le_cc, muls_ii, muls_si, ins_cs, iadd_ii, isub_ii, w_onone, w_osome, w_sl, sl_s, sl_t, s_aug, eq_ss, len_s, ix_s, add_ss, str_s, tuple_t, list_t, is_n, not_n, non_n, non_i, non_b, non_s, non_t, non_r, abs_i, max_ii, min_ii, int_i, int_b, gcd_ii, len_t, ix_t, eq_v, ne_v, eq_ii, eq_bb, eq_nn, eq_in, eq_ni, iv_n_list, iv_n_tuple, iv_n_bool, iv_n_str, iv_n_int, okt_n, iv_b_list, iv_b_tuple, iv_b_bool, iv_b_str, iv_b_int, okt_b, iv_i_list, iv_i_tuple, iv_i_bool, iv_i_str, iv_i_int, okt_i, iv_s_list, iv_s_tuple, iv_s_bool, iv_s_str, iv_s_int, okt_s, iv_t_list, iv_t_tuple, iv_t_bool, iv_t_str, iv_t_int, okt_t, iv_r_list, iv_r_tuple, iv_r_bool, iv_r_str, iv_r_int, tru_b, tru_i, tru_n, tru_t, Option.map_some, Option.map_none, List.map_cons, List.map_nil, List.length_cons, List.length_nil, List.set_cons_zero, List.set_cons_succ, List.cons_append, List.nil_append, List.replicate, Nat.reduceAdd, Nat.reduceSub, Nat.reduceLeDiff, true_and, and_true, decide_eq_true_eq, reduceIte, Bool.false_eq_true, Bool.not_true, Bool.not_false, decide_true, decide_false]
  obtain ⟨rc1, rc2⟩ := rr_cut hBy (c := ct) (by omega)
  refine (readrec_ok (a := 0) get_new (fun x hx => recF_by hBy x (List.mem_of_mem_take hx)) (by rw [List.length_take]; omega) (by decide) rc2).mono ?_
  rintro _ m7 ⟨hn, _, G7⟩
  cases hn rc1
  have G7 := Gr.one.trans G7
  have P := G7.get _ _ P
  have O := G7.get _ _ O
  have h0 := G7.get _ _ h0
  have K := G7.get _ _ K
  try simp -dsimp only [at0, at1, at2, at3, at4, at5, at6, wp_fn, s_nil, s_brk, s_cnt, s_expr, s_ret, s_retN, s_if, s_asn, s_par, s_asg, g_nm, g_nil, g_cons, g_tupT, g_subW, w_v0, w_vS, w_c, w_op, w_un, w_anil, w_acons, w_tup, w_lst, w_call, w_callU, w_isi, w_meth, w_tru, w_bool, w_notS, w_andS, w_orS, w_ifx, w_andV, w_orV, w_notV, w_chain, wp_ok, wp_bad, wp_some, wp_none, wp_liftif, wp_if, asB_b, wp_noex, add_ii, sub_ii, mul_ii, fdiv_ii, mod_ii, pow_ii, neg_i, cmp_ii, lt_ii, le_ii, gt_ii, ge_ii, le_cc, muls_ii, muls_si, ins_cs, iadd_ii, isub_ii, w_onone, w_osome, w_sl, sl_s, sl_t, s_aug, eq_ss, len_s, ix_s, add_ss, str_s, tuple_t, list_t, is_n, not_n, non_n, non_i, non_b, non_s, non_t, non_r, abs_i, max_ii, min_ii, int_i, int_b, gcd_ii, len_t, ix_t, eq_v, ne_v, eq_ii, eq_bb, eq_nn, eq_in, eq_ni, iv_n_list, iv_n_tuple, iv_n_bool, iv_n_str, iv_n_int, okt_n, iv_b_list, iv_b_tuple, iv_b_bool, iv_b_str, iv_b_int, okt_b, iv_i_list, iv_i_tuple, iv_i_bool, iv_i_str, iv_i_int, okt_i, iv_s_list, iv_s_tuple, iv_s_bool, iv_s_str, iv_s_int, okt_s, iv_t_list, iv_t_tuple, iv_t_bool, iv_t_str, iv_t_int, okt_t, iv_r_list, iv_r_tuple, iv_r_bool, iv_r_str, iv_r_int, tru_b, tru_i, tru_n, tru_t, Option.map_some, Option.map_none, List.map_cons, List.map_nil, List.length_cons, List.length_nil, List.set_cons_zero, List.set_cons_succ, List.cons_append, List.nil_append, List.replicate, Nat.reduceAdd, Nat.reduceSub, Nat.reduceLeDiff, true_and, and_true, decide_eq_true_eq, reduceIte, Bool.false_eq_true, Bool.not_true, Bool.not_false, decide_true, decide_false]
  rw [s_seq]
  try simp -dsimp only [at0, at1, at2, at3, at4, at5, at6, wp_fn, s_nil, s_brk, s_cnt, s_expr, s_ret, s_retN, s_if, s_asn, s_par, s_asg, g_nm, g_nil, g_cons, g_tupT, g_subW, w_v0, w_vS, w_c, w_op, w_un, w_anil, w_acons, w_tup, w_lst, w_call, w_callU, w_isi, w_meth, w_tru, w_bool, w_notS, w_andS, w_orS, w_ifx, w_andV, w_orV, w_notV, w_chain, wp_ok, wp_bad, wp_some, wp_none, wp_liftif, wp_if, asB_b, wp_noex, add_ii, sub_ii, mul_ii, fdiv_ii, mod_ii, pow_ii, neg_i, cmp_ii, lt_ii, le_ii, gt_ii, ge_ii, le_cc, muls_ii, muls_si, ins_cs, iadd_ii, isub_ii, w_onone, w_osome, w_sl, sl_s, sl_t, s_aug, eq_ss, len_s, ix_s, add_ss, str_s, tuple_t, list_t, is_n, not_n, non_n, non_i, non_b, non_s, non_t, non_r, abs_i, max_ii, min_ii, int_i, int_b, gcd_ii, len_t, ix_t, eq_v, ne_v, eq_ii, eq_bb, eq_nn, eq_in, eq_ni, iv_n_list, iv_n_tuple, iv_n_bool, iv_n_str, iv_n_int, okt_n, iv_b_list, iv_b_tuple, iv_b_bool, iv_b_str, iv_b_int, okt_b, iv_i_list, iv_i_tuple, iv_i_bool, iv_i_str, iv_i_int, okt_i, iv_s_list, iv_s_tuple, iv_s_bool, iv_s_str, iv_s_int, okt_s, iv_t_list, iv_t_tuple, iv_t_bool, iv_t_str, iv_t_int, okt_t, iv_r_list, iv_r_tuple, iv_r_bool, iv_r_str, iv_r_int, tru_b, tru_i, tru_n, tru_t, Option.map_some, Option.map_none, List.map_cons, List.map_nil, List.length_cons, List.length_nil, List.set_cons_zero, List.set_cons_succ, List.cons_append, List.nil_append, List.replicate, Nat.reduceAdd, Nat.reduceSub, Nat.reduceLeDiff, true_and, and_true, decide_eq_true_eq, reduceIte, Bool.false_eq_true, Bool.not_true, Bool.not_false, decide_true, decide_false]
  rw [eix _ P]
  try simp -dsimp only [len_r (seq_of_lst K), at0, at1, at2, at3, at4, at5, at6, wp_fn, s_nil, s_brk, s_cnt, s_expr, s_ret, s_retN, s_if, s_asn, s_par, s_asg, g_nm, g_nil, g_cons, g_tupT, g_subW, w_v0, w_vS, w_c, w_op, w_un, w_anil, w_acons, w_tup, w_lst, w_call, w_callU, w_isi, w_meth, w_tru, w_bool, w_notS, w_andS, w_orS, w_ifx, w_andV, w_orV, w_notV, w_chain, wp_ok, wp_bad, wp_some, wp_none, wp_liftif, wp_if, asB_b, wp_noex, add_ii, sub_ii, mul_ii, fdiv_ii, mod_ii, pow_ii, neg_i, cmp_ii, lt_ii, le_ii, gt_ii, ge_ii, le_cc, muls_ii, muls_si, ins_cs, iadd_ii, isub_ii, w_onone, w_osome, w_sl, sl_s, sl_t, s_aug, eq_ss, len_s, ix_s, add_ss, str_s, tuple_t, list_t, is_n, not_n, non_n, non_i, non_b, non_s, non_t, non_r, abs_i, max_ii, min_ii, int_i, int_b, gcd_ii, len_t, ix_t, eq_v, ne_v, eq_ii, eq_bb, eq_nn, eq_in, eq_ni, iv_n_list, iv_n_tuple, iv_n_bool, iv_n_str, iv_n_int, okt_n, iv_b_list, iv_b_tuple, iv_b_bool, iv_b_str, iv_b_int, okt_b, iv_i_list, iv_i_tuple, iv_i_bool, iv_i_str, iv_i_int, okt_i, iv_s_list, iv_s_tuple, iv_s_bool, iv_s_str, iv_s_int, okt_s, iv_t_list, iv_t_tuple, iv_t_bool, iv_t_str, iv_t_int, okt_t, iv_r_list, iv_r_tuple, iv_r_bool, iv_r_str, iv_r_int, tru_b, tru_i, tru_n, tru_t, Option.map_some, Option.map_none, List.map_cons, List.map_nil, List.length_cons, List.length_nil, List.set_cons_zero, List.set_cons_succ, List.cons_append, List.nil_append, List.replicate, Nat.reduceAdd, Nat.reduceSub, Nat.reduceLeDiff, true_and, and_true, decide_eq_true_eq, reduceIte, Bool.false_eq_true, Bool.not_true, Bool.not_false, decide_true, decide_false]
  rw [List.length_map, s_seq]
  try simp -dsimp only [at0, at1, at2, at3, at4, at5, at6, wp_fn, s_nil, s_brk, s_cnt, s_expr, s_ret, s_retN, s_if, s_asn, s_par, s_asg, g_nm, g_nil, g_cons, g_tupT, g_subW, w_v0, w_vS, w_c, w_op, w_un, w_anil, w_acons, w_tup, w_lst, w_call, w_callU, w_isi, w_meth, w_tru, w_bool, w_notS, w_andS, w_orS, w_ifx, w_andV, w_orV, w_notV, w_chain, wp_ok, wp_bad, wp_some, wp_none, wp_liftif, wp_if, asB_b, wp_noex, add_ii, sub_ii, mul_ii, fdiv_ii, mod_ii, pow_ii, neg_i, cmp_ii, lt_ii, le_ii, gt_ii, ge_ii, le_cc, muls_ii, muls_si, ins_cs, iadd_ii, isub_ii, w_onone, w_osome, w_sl, sl_s, sl_t, s_aug, eq_ss, len_s, ix_s, add_ss, str_s, tuple_t, list_t, is_n, not_n, non_n, non_i, non_b, non_s, non_t, non_r, abs_i, max_ii, min_ii, int_i, int_b, gcd_ii, len_t, ix_t, eq_v, ne_v, eq_ii, eq_bb, eq_nn, eq_in, eq_ni, iv_n_list, iv_n_tuple, iv_n_bool, iv_n_str, iv_n_int, okt_n, iv_b_list, iv_b_tuple, iv_b_bool, iv_b_str, iv_b_int, okt_b, iv_i_list, iv_i_tuple, iv_i_bool, iv_i_str, iv_i_int, okt_i, iv_s_list, iv_s_tuple, iv_s_bool, iv_s_str, iv_s_int, okt_s, iv_t_list, iv_t_tuple, iv_t_bool, iv_t_str, iv_t_int, okt_t, iv_r_list, iv_r_tuple, iv_r_bool, iv_r_str, iv_r_int, tru_b, tru_i, tru_n, tru_t, Option.map_some, Option.map_none, List.map_cons, List.map_nil, List.length_cons, List.length_nil, List.set_cons_zero, List.set_cons_succ, List.cons_append, List.nil_append, List.replicate, Nat.reduceAdd, Nat.reduceSub, Nat.reduceLeDiff, true_and, and_true, decide_eq_true_eq, reduceIte, Bool.false_eq_true, Bool.not_true, Bool.not_false, decide_true, decide_false]
  by_cases hz : (b.length : Int) > 0
  · rw [if_pos hz]
    have hbl := hBy.2
    have e1 := nbF_len (n := (b.length : Nat)) (by omega) (by omega)
    rw [s_seq]
    try simp -dsimp only [at0, at1, at2, at3, at4, at5, at6, wp_fn, s_nil, s_brk, s_cnt, s_expr, s_ret, s_retN, s_if, s_asn, s_par, s_asg, g_nm, g_nil, g_cons, g_tupT, g_subW, w_v0, w_vS, w_c, w_op, w_un, w_anil, w_acons, w_tup, w_lst, w_call, w_callU, w_isi, w_meth, w_tru, w_bool, w_notS, w_andS, w_orS, w_ifx, w_andV, w_orV, w_notV, w_chain, wp_ok, wp_bad, wp_some, wp_none, wp_liftif, wp_if, asB_b, wp_noex, add_ii, sub_ii, mul_ii, fdiv_ii, mod_ii, pow_ii, neg_i, cmp_ii, lt_ii, le_ii, gt_ii, ge_ii, le_cc, muls_ii, muls_si, ins_cs, iadd_ii, isub_ii, w_onone, w_osome, w_sl, sl_s, sl_t, s_aug, eq_ss, len_s, ix_s, add_ss, str_s, tuple_t, list_t, is_n, not_n, non_n, non_i, non_b, non_s, non_t, non_r, abs_i, max_ii, min_ii, int_i, int_b, gcd_ii, len_t, ix_t, eq_v, ne_v, eq_ii, eq_bb, eq_nn, eq_in, eq_ni, iv_n_list, iv_n_tuple, iv_n_bool, iv_n_str, iv_n_int, okt_n, iv_b_list, iv_b_tuple, iv_b_bool, iv_b_str, iv_b_int, okt_b, iv_i_list, iv_i_tuple, iv_i_bool, iv_i_str, iv_i_int, okt_i, iv_s_list, iv_s_tuple, iv_s_bool, iv_s_str, iv_s_int, okt_s, iv_t_list, iv_t_tuple, iv_t_bool, iv_t_str, iv_t_int, okt_t, iv_r_list, iv_r_tuple, iv_r_bool, iv_r_str, iv_r_int, tru_b, tru_i, tru_n, tru_t, Option.map_some, Option.map_none, List.map_cons, List.map_nil, List.length_cons, List.length_nil, List.set_cons_zero, List.set_cons_succ, List.cons_append, List.nil_append, List.replicate, Nat.reduceAdd, Nat.reduceSub, Nat.reduceLeDiff, true_and, and_true, decide_eq_true_eq, reduceIte, Bool.false_eq_true, Bool.not_true, Bool.not_false, decide_true, decide_false]
    refine (lnum_ok (by omega) (by omega)).mono ?_
    rintro _ m8 ⟨q, rfl, Q8, _, G8⟩
    have P := G8.get _ _ P
    have O := G8.get _ _ O
    have h0 := G8.get _ _ h0
    have K := G8.get _ _ K
    try simp -dsimp only [len_r (seq_of_lst Q8), at0, at1, at2, at3, at4, at5, at6, wp_fn, s_nil, s_brk, s_cnt, s_expr, s_ret, s_retN, s_if, s_asn, s_par, s_asg, g_nm, g_nil, g_cons, g_tupT, g_subW, w_v0, w_vS, w_c, w_op, w_un, w_anil, w_acons, w_tup, w_lst, w_call, w_callU, w_isi, w_meth, w_tru, w_bool, w_notS, w_andS, w_orS, w_ifx, w_andV, w_orV, w_notV, w_chain, wp_ok, wp_bad, wp_some, wp_none, wp_liftif, wp_if, asB_b, wp_noex, add_ii, sub_ii, mul_ii, fdiv_ii, mod_ii, pow_ii, neg_i, cmp_ii, lt_ii, le_ii, gt_ii, ge_ii, le_cc, muls_ii, muls_si, ins_cs, iadd_ii, isub_ii, w_onone, w_osome, w_sl, sl_s, sl_t, s_aug, eq_ss, len_s, ix_s, add_ss, str_s, tuple_t, list_t, is_n, not_n, non_n, non_i, non_b, non_s, non_t, non_r, abs_i, max_ii, min_ii, int_i, int_b, gcd_ii, len_t, ix_t, eq_v, ne_v, eq_ii, eq_bb, eq_nn, eq_in, eq_ni, iv_n_list, iv_n_tuple, iv_n_bool, iv_n_str, iv_n_int, okt_n, iv_b_list, iv_b_tuple, iv_b_bool, iv_b_str, iv_b_int, okt_b, iv_i_list, iv_i_tuple, iv_i_bool, iv_i_str, iv_i_int, okt_i, iv_s_list, iv_s_tuple, iv_s_bool, iv_s_str, iv_s_int, okt_s, iv_t_list, iv_t_tuple, iv_t_bool, iv_t_str, iv_t_int, okt_t, iv_r_list, iv_r_tuple, iv_r_bool, iv_r_str, iv_r_int, tru_b, tru_i, tru_n, tru_t, Option.map_some, Option.map_none, List.map_cons, List.map_nil, List.length_cons, List.length_nil, List.set_cons_zero, List.set_cons_succ, List.cons_append, List.nil_append, List.replicate, Nat.reduceAdd, Nat.reduceSub, Nat.reduceLeDiff, true_and, and_true, decide_eq_true_eq, reduceIte, Bool.false_eq_true, Bool.not_true, Bool.not_false, decide_true, decide_false]
    rw [List.length_map, s_seq]
    try simp -dsimp only [at0, at1, at2, at3, at4, at5, at6, wp_fn, s_nil, s_brk, s_cnt, s_expr, s_ret, s_retN, s_if, s_asn, s_par, s_asg, g_nm, g_nil, g_cons, g_tupT, g_subW, w_v0, w_vS, w_c, w_op, w_un, w_anil, w_acons, w_tup, w_lst, w_call, w_callU, w_isi, w_meth, w_tru, w_bool, w_notS, w_andS, w_orS, w_ifx, w_andV, w_orV, w_notV, w_chain, wp_ok, wp_bad, wp_some, wp_none, wp_liftif, wp_if, asB_b, wp_noex, add_ii, sub_ii, mul_ii, fdiv_ii, mod_ii, pow_ii, neg_i, cmp_ii, lt_ii, le_ii, gt_ii, ge_ii, le_cc, muls_ii, muls_si, ins_cs, iadd_ii, isub_ii, w_onone, w_osome, w_sl, sl_s, sl_t, s_aug, eq_ss, len_s, ix_s, add_ss, str_s, tuple_t, list_t, is_n, not_n, non_n, non_i, non_b, non_s, non_t, non_r, abs_i, max_ii, min_ii, int_i, int_b, gcd_ii, len_t, ix_t, eq_v, ne_v, eq_ii, eq_bb, eq_nn, eq_in, eq_ni, iv_n_list, iv_n_tuple, iv_n_bool, iv_n_str, iv_n_int, okt_n, iv_b_list, iv_b_tuple, iv_b_bool, iv_b_str, iv_b_int, okt_b, iv_i_list, iv_i_tuple, iv_i_bool, iv_i_str, iv_i_int, okt_i, iv_s_list, iv_s_tuple, iv_s_bool, iv_s_str, iv_s_int, okt_s, iv_t_list, iv_t_tuple, iv_t_bool, iv_t_str, iv_t_int, okt_t, iv_r_list, iv_r_tuple, iv_r_bool, iv_r_str, iv_r_int, tru_b, tru_i, tru_n, tru_t, Option.map_some, Option.map_none, List.map_cons, List.map_nil, List.length_cons, List.length_nil, List.set_cons_zero, List.set_cons_succ, List.cons_append, List.nil_append, List.replicate, Nat.reduceAdd, Nat.reduceSub, Nat.reduceLeDiff, true_and, and_true, decide_eq_true_eq, reduceIte, Bool.false_eq_true, Bool.not_true, Bool.not_false, decide_true, decide_false]
    refine (cell_ok (seq_of_frz h0) (by decide)).mono ?_
    rintro _ m8 ⟨rfl, rfl⟩
    generalize ns.getD (Int.toNat 16) 0 = c16
    try simp -dsimp only [at0, at1, at2, at3, at4, at5, at6, wp_fn, s_nil, s_brk, s_cnt, s_expr, s_ret, s_retN, s_if, s_asn, s_par, s_asg, g_nm, g_nil, g_cons, g_tupT, g_subW, w_v0, w_vS, w_c, w_op, w_un, w_anil, w_acons, w_tup, w_lst, w_call, w_callU, w_isi, w_meth, w_tru, w_bool, w_notS, w_andS, w_orS, w_ifx, w_andV, w_orV, w_notV, w_chain, wp_ok, wp_bad, wp_some, wp_none, wp_liftif, wp_if, asB_b, wp_noex, add_ii, sub_ii, mul_ii, fdiv_ii, mod_ii, pow_ii, neg_i, cmp_ii, lt_ii, le_ii, gt_ii, ge_ii, le_cc, muls_ii, muls_si, ins_cs, iadd_ii, isub_ii, w_onone, w_osome, w_sl, sl_s, sl_t, s_aug, eq_ss, len_s, ix_s, add_ss, str_s, tuple_t, list_t, is_n, not_n, non_n, non_i, non_b, non_s, non_t, non_r, abs_i, max_ii, min_ii, int_i, int_b, gcd_ii, len_t, ix_t, eq_v, ne_v, eq_ii, eq_bb, eq_nn, eq_in, eq_ni, iv_n_list, iv_n_tuple, iv_n_bool, iv_n_str, iv_n_int, okt_n, iv_b_list, iv_b_tuple, iv_b_bool, iv_b_str, iv_b_int, okt_b, iv_i_list, iv_i_tuple, iv_i_bool, iv_i_str, iv_i_int, okt_i, iv_s_list, iv_s_tuple, iv_s_bool, iv_s_str, iv_s_int, okt_s, iv_t_list, iv_t_tuple, iv_t_bool, iv_t_str, iv_t_int, okt_t, iv_r_list, iv_r_tuple, iv_r_bool, iv_r_str, iv_r_int, tru_b, tru_i, tru_n, tru_t, Option.map_some, Option.map_none, List.map_cons, List.map_nil, List.length_cons, List.length_nil, List.set_cons_zero, List.set_cons_succ, List.cons_append, List.nil_append, List.replicate, Nat.reduceAdd, Nat.reduceSub, Nat.reduceLeDiff, true_and, and_true, decide_eq_true_eq, reduceIte, Bool.false_eq_true, Bool.not_true, Bool.not_false, decide_true, decide_false]
    rw [if_pos (by omega), fmod_pos (by omega)]
    try simp -dsimp only [at0, at1, at2, at3, at4, at5, at6, wp_fn, s_nil, s_brk, s_cnt, s_expr, s_ret, s_retN, s_if, s_asn, s_par, s_asg, g_nm, g_nil, g_cons, g_tupT, g_subW, w_v0, w_vS, w_c, w_op, w_un, w_anil, w_acons, w_tup, w_lst, w_call, w_callU, w_isi, w_meth, w_tru, w_bool, w_notS, w_andS, w_orS, w_ifx, w_andV, w_orV, w_notV, w_chain, wp_ok, wp_bad, wp_some, wp_none, wp_liftif, wp_if, asB_b, wp_noex, add_ii, sub_ii, mul_ii, fdiv_ii, mod_ii, pow_ii, neg_i, cmp_ii, lt_ii, le_ii, gt_ii, ge_ii, le_cc, muls_ii, muls_si, ins_cs, iadd_ii, isub_ii, w_onone, w_osome, w_sl, sl_s, sl_t, s_aug, eq_ss, len_s, ix_s, add_ss, str_s, tuple_t, list_t, is_n, not_n, non_n, non_i, non_b, non_s, non_t, non_r, abs_i, max_ii, min_ii, int_i, int_b, gcd_ii, len_t, ix_t, eq_v, ne_v, eq_ii, eq_bb, eq_nn, eq_in, eq_ni, iv_n_list, iv_n_tuple, iv_n_bool, iv_n_str, iv_n_int, okt_n, iv_b_list, iv_b_tuple, iv_b_bool, iv_b_str, iv_b_int, okt_b, iv_i_list, iv_i_tuple, iv_i_bool, iv_i_str, iv_i_int, okt_i, iv_s_list, iv_s_tuple, iv_s_bool, iv_s_str, iv_s_int, okt_s, iv_t_list, iv_t_tuple, iv_t_bool, iv_t_str, iv_t_int, okt_t, iv_r_list, iv_r_tuple, iv_r_bool, iv_r_str, iv_r_int, tru_b, tru_i, tru_n, tru_t, Option.map_some, Option.map_none, List.map_cons, List.map_nil, List.length_cons, List.length_nil, List.set_cons_zero, List.set_cons_succ, List.cons_append, List.nil_append, List.replicate, Nat.reduceAdd, Nat.reduceSub, Nat.reduceLeDiff, true_and, and_true, decide_eq_true_eq, reduceIte, Bool.false_eq_true, Bool.not_true, Bool.not_false, decide_true, decide_false]
    obtain ⟨i, hi⟩ := Int.eq_ofNat_of_zero_le (Int.emod_nonneg c16 (b := (b.length : Nat)) (by omega))
    have hi2 := Int.emod_lt_of_pos c16 (b := (b.length : Nat)) (by omega)
    rw [hi] at hi2 ⊢
    rw [s_seq]
    try simp -dsimp only [list_r (seq_of_lst O), at0, at1, at2, at3, at4, at5, at6, wp_fn, s_nil, s_brk, s_cnt, s_expr, s_ret, s_retN, s_if, s_asn, s_par, s_asg, g_nm, g_nil, g_cons, g_tupT, g_subW, w_v0, w_vS, w_c, w_op, w_un, w_anil, w_acons, w_tup, w_lst, w_call, w_callU, w_isi, w_meth, w_tru, w_bool, w_notS, w_andS, w_orS, w_ifx, w_andV, w_orV, w_notV, w_chain, wp_ok, wp_bad, wp_some, wp_none, wp_liftif, wp_if, asB_b, wp_noex, add_ii, sub_ii, mul_ii, fdiv_ii, mod_ii, pow_ii, neg_i, cmp_ii, lt_ii, le_ii, gt_ii, ge_ii, le_cc, muls_ii, muls_si, ins_cs, iadd_ii, isub_ii, w_onone, w_osome, w_sl, sl_s, sl_t, s_aug, eq_ss, len_s, ix_s, add_ss, str_s, tuple_t, list_t, is_n, not_n, non_n, non_i, non_b, non_s, non_t, non_r, abs_i, max_ii, min_ii, int_i, int_b, gcd_ii, len_t, ix_t, eq_v, ne_v, eq_ii, eq_bb, eq_nn, eq_in, eq_ni, iv_n_list, iv_n_tuple, iv_n_bool, iv_n_str, iv_n_int, okt_n, iv_b_list, iv_b_tuple, iv_b_bool, iv_b_str, iv_b_int, okt_b, iv_i_list, iv_i_tuple, iv_i_bool, iv_i_str, iv_i_int, okt_i, iv_s_list, iv_s_tuple, iv_s_bool, iv_s_str, iv_s_int, okt_s, iv_t_list, iv_t_tuple, iv_t_bool, iv_t_str, iv_t_int, okt_t, iv_r_list, iv_r_tuple, iv_r_bool, iv_r_str, iv_r_int, tru_b, tru_i, tru_n, tru_t, Option.map_some, Option.map_none, List.map_cons, List.map_nil, List.length_cons, List.length_nil, List.set_cons_zero, List.set_cons_succ, List.cons_append, List.nil_append, List.replicate, Nat.reduceAdd, Nat.reduceSub, Nat.reduceLeDiff, true_and, and_true, decide_eq_true_eq, reduceIte, Bool.false_eq_true, Bool.not_true, Bool.not_false, decide_true, decide_false]
    rw [s_seq]
    try simp -dsimp only [at0, at1, at2, at3, at4, at5, at6, wp_fn, s_nil, s_brk, s_cnt, s_expr, s_ret, s_retN, s_if, s_asn, s_par, s_asg, g_nm, g_nil, g_cons, g_tupT, g_subW, w_v0, w_vS, w_c, w_op, w_un, w_anil, w_acons, w_tup, w_lst, w_call, w_callU, w_isi, w_meth, w_tru, w_bool, w_notS, w_andS, w_orS, w_ifx, w_andV, w_orV, w_notV, w_chain, wp_ok, wp_bad, wp_some, wp_none, wp_liftif, wp_if, asB_b, wp_noex, add_ii, sub_ii, mul_ii, fdiv_ii, mod_ii, pow_ii, neg_i, cmp_ii, lt_ii, le_ii, gt_ii, ge_ii, le_cc, muls_ii, muls_si, ins_cs, iadd_ii, isub_ii, w_onone, w_osome, w_sl, sl_s, sl_t, s_aug, eq_ss, len_s, ix_s, add_ss, str_s, tuple_t, list_t, is_n, not_n, non_n, non_i, non_b, non_s, non_t, non_r, abs_i, max_ii, min_ii, int_i, int_b, gcd_ii, len_t, ix_t, eq_v, ne_v, eq_ii, eq_bb, eq_nn, eq_in, eq_ni, iv_n_list, iv_n_tuple, iv_n_bool, iv_n_str, iv_n_int, okt_n, iv_b_list, iv_b_tuple, iv_b_bool, iv_b_str, iv_b_int, okt_b, iv_i_list, iv_i_tuple, iv_i_bool, iv_i_str, iv_i_int, okt_i, iv_s_list, iv_s_tuple, iv_s_bool, iv_s_str, iv_s_int, okt_s, iv_t_list, iv_t_tuple, iv_t_bool, iv_t_str, iv_t_int, okt_t, iv_r_list, iv_r_tuple, iv_r_bool, iv_r_str, iv_r_int, tru_b, tru_i, tru_n, tru_t, Option.map_some, Option.map_none, List.map_cons, List.map_nil, List.length_cons, List.length_nil, List.set_cons_zero, List.set_cons_succ, List.cons_append, List.nil_append, List.replicate, Nat.reduceAdd, Nat.reduceSub, Nat.reduceLeDiff, true_and, and_true, decide_eq_true_eq, reduceIte, Bool.false_eq_true, Bool.not_true, Bool.not_false, decide_true, decide_false]
    have hk8 := (List.getElem?_eq_some_iff.mp K).1
    have hp8 := (List.getElem?_eq_some_iff.mp P).1
    have h08 := (List.getElem?_eq_some_iff.mp h0).1
    have N := get_new (m := m8) (o := MO.lst ((recF b).map PV.int))
    have P := get_old (o := MO.lst ((recF b).map PV.int)) P
    have h0 := get_old (o := MO.lst ((recF b).map PV.int)) h0
    have K := get_old (o := MO.lst ((recF b).map PV.int)) K
    generalize m8 ++ [MO.lst ((recF b).map PV.int)] = m9 at *
    generalize m8.length = ch at *
    have erf : recF b = nbF (b.length : Nat) ++ (b ++ nbF (chk 9 b)) := by have := recF_app (b := b) (post := []); rwa [List.append_nil, List.append_nil] at this
    have eI : (((nbF (b.length : Nat)).length : Nat) : Int) + (i : Nat) = (((nbF (b.length : Nat)).length + i : Nat) : Int) := by omega
    rw [eI]
    have hib : i < b.length := by omega
    have ez : b[i]? = some (b[i]'hib) := List.getElem?_eq_getElem hib
    generalize b[i]'hib = z at ez
    have eA : atI ((recF b).map PV.int) (((nbF (b.length : Nat)).length + i : Nat) : Int) = some (.int z) := by
      refine atI_nat ?_
      rw [List.getElem?_map, erf, List.getElem?_append_right (by omega), Nat.add_sub_cancel_left, List.getElem?_append_left hib, ez]
      rfl
    rw [ix_r (seq_of_lst N), eA]
    try simp -dsimp only [at0, at1, at2, at3, at4, at5, at6, wp_fn, s_nil, s_brk, s_cnt, s_expr, s_ret, s_retN, s_if, s_asn, s_par, s_asg, g_nm, g_nil, g_cons, g_tupT, g_subW, w_v0, w_vS, w_c, w_op, w_un, w_anil, w_acons, w_tup, w_lst, w_call, w_callU, w_isi, w_meth, w_tru, w_bool, w_notS, w_andS, w_orS, w_ifx, w_andV, w_orV, w_notV, w_chain, wp_ok, wp_bad, wp_some, wp_none, wp_liftif, wp_if, asB_b, wp_noex, add_ii, sub_ii, mul_ii, fdiv_ii, mod_ii, pow_ii, neg_i, cmp_ii, lt_ii, le_ii, gt_ii, ge_ii, le_cc, muls_ii, muls_si, ins_cs, iadd_ii, isub_ii, w_onone, w_osome, w_sl, sl_s, sl_t, s_aug, eq_ss, len_s, ix_s, add_ss, str_s, tuple_t, list_t, is_n, not_n, non_n, non_i, non_b, non_s, non_t, non_r, abs_i, max_ii, min_ii, int_i, int_b, gcd_ii, len_t, ix_t, eq_v, ne_v, eq_ii, eq_bb, eq_nn, eq_in, eq_ni, iv_n_list, iv_n_tuple, iv_n_bool, iv_n_str, iv_n_int, okt_n, iv_b_list, iv_b_tuple, iv_b_bool, iv_b_str, iv_b_int, okt_b, iv_i_list, iv_i_tuple, iv_i_bool, iv_i_str, iv_i_int, okt_i, iv_s_list, iv_s_tuple, iv_s_bool, iv_s_str, iv_s_int, okt_s, iv_t_list, iv_t_tuple, iv_t_bool, iv_t_str, iv_t_int, okt_t, iv_r_list, iv_r_tuple, iv_r_bool, iv_r_str, iv_r_int, tru_b, tru_i, tru_n, tru_t, Option.map_some, Option.map_none, List.map_cons, List.map_nil, List.length_cons, List.length_nil, List.set_cons_zero, List.set_cons_succ, List.cons_append, List.nil_append, List.replicate, Nat.reduceAdd, Nat.reduceSub, Nat.reduceLeDiff, true_and, and_true, decide_eq_true_eq, reduceIte, Bool.false_eq_true, Bool.not_true, Bool.not_false, decide_true, decide_false]
    refine (cell_ok (seq_of_frz h0) (by decide)).mono ?_
    rintro _ m9 ⟨rfl, rfl⟩
    generalize ns.getD (Int.toNat 17) 0 = c17
    try simp -dsimp only [at0, at1, at2, at3, at4, at5, at6, wp_fn, s_nil, s_brk, s_cnt, s_expr, s_ret, s_retN, s_if, s_asn, s_par, s_asg, g_nm, g_nil, g_cons, g_tupT, g_subW, w_v0, w_vS, w_c, w_op, w_un, w_anil, w_acons, w_tup, w_lst, w_call, w_callU, w_isi, w_meth, w_tru, w_bool, w_notS, w_andS, w_orS, w_ifx, w_andV, w_orV, w_notV, w_chain, wp_ok, wp_bad, wp_some, wp_none, wp_liftif, wp_if, asB_b, wp_noex, add_ii, sub_ii, mul_ii, fdiv_ii, mod_ii, pow_ii, neg_i, cmp_ii, lt_ii, le_ii, gt_ii, ge_ii, le_cc, muls_ii, muls_si, ins_cs, iadd_ii, isub_ii, w_onone, w_osome, w_sl, sl_s, sl_t, s_aug, eq_ss, len_s, ix_s, add_ss, str_s, tuple_t, list_t, is_n, not_n, non_n, non_i, non_b, non_s, non_t, non_r, abs_i, max_ii, min_ii, int_i, int_b, gcd_ii, len_t, ix_t, eq_v, ne_v, eq_ii, eq_bb, eq_nn, eq_in, eq_ni, iv_n_list, iv_n_tuple, iv_n_bool, iv_n_str, iv_n_int, okt_n, iv_b_list, iv_b_tuple, iv_b_bool, iv_b_str, iv_b_int, okt_b, iv_i_list, iv_i_tuple, iv_i_bool, iv_i_str, iv_i_int, okt_i, iv_s_list, iv_s_tuple, iv_s_bool, iv_s_str, iv_s_int, okt_s, iv_t_list, iv_t_tuple, iv_t_bool, iv_t_str, iv_t_int, okt_t, iv_r_list, iv_r_tuple, iv_r_bool, iv_r_str, iv_r_int, tru_b, tru_i, tru_n, tru_t, Option.map_some, Option.map_none, List.map_cons, List.map_nil, List.length_cons, List.length_nil, List.set_cons_zero, List.set_cons_succ, List.cons_append, List.nil_append, List.replicate, Nat.reduceAdd, Nat.reduceSub, Nat.reduceLeDiff, true_and, and_true, decide_eq_true_eq, reduceIte, Bool.false_eq_true, Bool.not_true, Bool.not_false, decide_true, decide_false]
    rw [if_pos (by decide), fmod_pos (by decide)]
    try simp -dsimp only [at0, at1, at2, at3, at4, at5, at6, wp_fn, s_nil, s_brk, s_cnt, s_expr, s_ret, s_retN, s_if, s_asn, s_par, s_asg, g_nm, g_nil, g_cons, g_tupT, g_subW, w_v0, w_vS, w_c, w_op, w_un, w_anil, w_acons, w_tup, w_lst, w_call, w_callU, w_isi, w_meth, w_tru, w_bool, w_notS, w_andS, w_orS, w_ifx, w_andV, w_orV, w_notV, w_chain, wp_ok, wp_bad, wp_some, wp_none, wp_liftif, wp_if, asB_b, wp_noex, add_ii, sub_ii, mul_ii, fdiv_ii, mod_ii, pow_ii, neg_i, cmp_ii, lt_ii, le_ii, gt_ii, ge_ii, le_cc, muls_ii, muls_si, ins_cs, iadd_ii, isub_ii, w_onone, w_osome, w_sl, sl_s, sl_t, s_aug, eq_ss, len_s, ix_s, add_ss, str_s, tuple_t, list_t, is_n, not_n, non_n, non_i, non_b, non_s, non_t, non_r, abs_i, max_ii, min_ii, int_i, int_b, gcd_ii, len_t, ix_t, eq_v, ne_v, eq_ii, eq_bb, eq_nn, eq_in, eq_ni, iv_n_list, iv_n_tuple, iv_n_bool, iv_n_str, iv_n_int, okt_n, iv_b_list, iv_b_tuple, iv_b_bool, iv_b_str, iv_b_int, okt_b, iv_i_list, iv_i_tuple, iv_i_bool, iv_i_str, iv_i_int, okt_i, iv_s_list, iv_s_tuple, iv_s_bool, iv_s_str, iv_s_int, okt_s, iv_t_list, iv_t_tuple, iv_t_bool, iv_t_str, iv_t_int, okt_t, iv_r_list, iv_r_tuple, iv_r_bool, iv_r_str, iv_r_int, tru_b, tru_i, tru_n, tru_t, Option.map_some, Option.map_none, List.map_cons, List.map_nil, List.length_cons, List.length_nil, List.set_cons_zero, List.set_cons_succ, List.cons_append, List.nil_append, List.replicate, Nat.reduceAdd, Nat.reduceSub, Nat.reduceLeDiff, true_and, and_true, decide_eq_true_eq, reduceIte, Bool.false_eq_true, Bool.not_true, Bool.not_false, decide_true, decide_false]
    rw [if_pos (by decide), fmod_pos (by decide)]
    try simp -dsimp only [at0, at1, at2, at3, at4, at5, at6, wp_fn, s_nil, s_brk, s_cnt, s_expr, s_ret, s_retN, s_if, s_asn, s_par, s_asg, g_nm, g_nil, g_cons, g_tupT, g_subW, w_v0, w_vS, w_c, w_op, w_un, w_anil, w_acons, w_tup, w_lst, w_call, w_callU, w_isi, w_meth, w_tru, w_bool, w_notS, w_andS, w_orS, w_ifx, w_andV, w_orV, w_notV, w_chain, wp_ok, wp_bad, wp_some, wp_none, wp_liftif, wp_if, asB_b, wp_noex, add_ii, sub_ii, mul_ii, fdiv_ii, mod_ii, pow_ii, neg_i, cmp_ii, lt_ii, le_ii, gt_ii, ge_ii, le_cc, muls_ii, muls_si, ins_cs, iadd_ii, isub_ii, w_onone, w_osome, w_sl, sl_s, sl_t, s_aug, eq_ss, len_s, ix_s, add_ss, str_s, tuple_t, list_t, is_n, not_n, non_n, non_i, non_b, non_s, non_t, non_r, abs_i, max_ii, min_ii, int_i, int_b, gcd_ii, len_t, ix_t, eq_v, ne_v, eq_ii, eq_bb, eq_nn, eq_in, eq_ni, iv_n_list, iv_n_tuple, iv_n_bool, iv_n_str, iv_n_int, okt_n, iv_b_list, iv_b_tuple, iv_b_bool, iv_b_str, iv_b_int, okt_b, iv_i_list, iv_i_tuple, iv_i_bool, iv_i_str, iv_i_int, okt_i, iv_s_list, iv_s_tuple, iv_s_bool, iv_s_str, iv_s_int, okt_s, iv_t_list, iv_t_tuple, iv_t_bool, iv_t_str, iv_t_int, okt_t, iv_r_list, iv_r_tuple, iv_r_bool, iv_r_str, iv_r_int, tru_b, tru_i, tru_n, tru_t, Option.map_some, Option.map_none, List.map_cons, List.map_nil, List.length_cons, List.length_nil, List.set_cons_zero, List.set_cons_succ, List.cons_append, List.nil_append, List.replicate, Nat.reduceAdd, Nat.reduceSub, Nat.reduceLeDiff, true_and, and_true, decide_eq_true_eq, reduceIte, Bool.false_eq_true, Bool.not_true, Bool.not_false, decide_true, decide_false]
    have hv0 := Int.emod_nonneg (z + 1 + c17 % 255) (b := 256) (by decide)
    have hv1 := Int.emod_lt_of_pos (z + 1 + c17 % 255) (b := 256) (by decide)
    generalize (z + 1 + c17 % 255) % 256 = v at *
    rw [setl_r (lst_of N) (ixN_nat (by rw [List.length_map, recF_l]; omega))]
    try simp -dsimp only [at0, at1, at2, at3, at4, at5, at6, wp_fn, s_nil, s_brk, s_cnt, s_expr, s_ret, s_retN, s_if, s_asn, s_par, s_asg, g_nm, g_nil, g_cons, g_tupT, g_subW, w_v0, w_vS, w_c, w_op, w_un, w_anil, w_acons, w_tup, w_lst, w_call, w_callU, w_isi, w_meth, w_tru, w_bool, w_notS, w_andS, w_orS, w_ifx, w_andV, w_orV, w_notV, w_chain, wp_ok, wp_bad, wp_some, wp_none, wp_liftif, wp_if, asB_b, wp_noex, add_ii, sub_ii, mul_ii, fdiv_ii, mod_ii, pow_ii, neg_i, cmp_ii, lt_ii, le_ii, gt_ii, ge_ii, le_cc, muls_ii, muls_si, ins_cs, iadd_ii, isub_ii, w_onone, w_osome, w_sl, sl_s, sl_t, s_aug, eq_ss, len_s, ix_s, add_ss, str_s, tuple_t, list_t, is_n, not_n, non_n, non_i, non_b, non_s, non_t, non_r, abs_i, max_ii, min_ii, int_i, int_b, gcd_ii, len_t, ix_t, eq_v, ne_v, eq_ii, eq_bb, eq_nn, eq_in, eq_ni, iv_n_list, iv_n_tuple, iv_n_bool, iv_n_str, iv_n_int, okt_n, iv_b_list, iv_b_tuple, iv_b_bool, iv_b_str, iv_b_int, okt_b, iv_i_list, iv_i_tuple, iv_i_bool, iv_i_str, iv_i_int, okt_i, iv_s_list, iv_s_tuple, iv_s_bool, iv_s_str, iv_s_int, okt_s, iv_t_list, iv_t_tuple, iv_t_bool, iv_t_str, iv_t_int, okt_t, iv_r_list, iv_r_tuple, iv_r_bool, iv_r_str, iv_r_int, tru_b, tru_i, tru_n, tru_t, Option.map_some, Option.map_none, List.map_cons, List.map_nil, List.length_cons, List.length_nil, List.set_cons_zero, List.set_cons_succ, List.cons_append, List.nil_append, List.replicate, Nat.reduceAdd, Nat.reduceSub, Nat.reduceLeDiff, true_and, and_true, decide_eq_true_eq, reduceIte, Bool.false_eq_true, Bool.not_true, Bool.not_false, decide_true, decide_false]
    have eS : ((recF b).map PV.int).set ((nbF (b.length : Nat)).length + i) (.int v) = (nbF (b.length : Nat) ++ (b.set i v ++ nbF (chk 9 b))).map .int := by
      have := set_mid (A := (nbF (b.length : Nat)).map PV.int) (B := b.map PV.int) (C := (nbF (chk 9 b)).map PV.int) (i := i) (v := .int v) (by rw [List.length_map]; exact hib)
      rw [erf, List.map_append, List.map_append, List.map_append, List.map_append, List.map_set]
      rw [List.length_map] at this
      exact this
    rw [eS]
    have N := get_set_eq (o := MO.lst ((nbF (b.length : Nat) ++ (b.set i v ++ nbF (chk 9 b))).map .int)) N
    have P := get_set_ne (o := MO.lst ((nbF (b.length : Nat) ++ (b.set i v ++ nbF (chk 9 b))).map .int)) P (show ch ≠ lo by omega)
    have K := get_set_ne (o := MO.lst ((nbF (b.length : Nat) ++ (b.set i v ++ nbF (chk 9 b))).map .int)) K (show ch ≠ k by omega)
    generalize m9.set ch (MO.lst ((nbF (b.length : Nat) ++ (b.set i v ++ nbF (chk 9 b))).map .int)) = m10 at *
    have eE : (((nbF (b.length : Nat)).length : Nat) : Int) + (b.length : Nat) = (((nbF (b.length : Nat)).length + b.length : Nat) : Int) := by omega
    have eC : (((nbF (b.length : Nat) ++ (b.set i v ++ nbF (chk 9 b))).map PV.int).drop (nbF (b.length : Nat)).length).take ((nbF (b.length : Nat)).length + b.length - (nbF (b.length : Nat)).length) = (b.set i v).map .int := by
      rw [← List.map_drop, ← List.map_take, List.drop_left, Nat.add_sub_cancel_left, List.take_left' (by rw [List.length_set])]
    rw [eE, slr_r (seq_of_lst N), cut_mid, eC]
    try simp -dsimp only [at0, at1, at2, at3, at4, at5, at6, wp_fn, s_nil, s_brk, s_cnt, s_expr, s_ret, s_retN, s_if, s_asn, s_par, s_asg, g_nm, g_nil, g_cons, g_tupT, g_subW, w_v0, w_vS, w_c, w_op, w_un, w_anil, w_acons, w_tup, w_lst, w_call, w_callU, w_isi, w_meth, w_tru, w_bool, w_notS, w_andS, w_orS, w_ifx, w_andV, w_orV, w_notV, w_chain, wp_ok, wp_bad, wp_some, wp_none, wp_liftif, wp_if, asB_b, wp_noex, add_ii, sub_ii, mul_ii, fdiv_ii, mod_ii, pow_ii, neg_i, cmp_ii, lt_ii, le_ii, gt_ii, ge_ii, le_cc, muls_ii, muls_si, ins_cs, iadd_ii, isub_ii, w_onone, w_osome, w_sl, sl_s, sl_t, s_aug, eq_ss, len_s, ix_s, add_ss, str_s, tuple_t, list_t, is_n, not_n, non_n, non_i, non_b, non_s, non_t, non_r, abs_i, max_ii, min_ii, int_i, int_b, gcd_ii, len_t, ix_t, eq_v, ne_v, eq_ii, eq_bb, eq_nn, eq_in, eq_ni, iv_n_list, iv_n_tuple, iv_n_bool, iv_n_str, iv_n_int, okt_n, iv_b_list, iv_b_tuple, iv_b_bool, iv_b_str, iv_b_int, okt_b, iv_i_list, iv_i_tuple, iv_i_bool, iv_i_str, iv_i_int, okt_i, iv_s_list, iv_s_tuple, iv_s_bool, iv_s_str, iv_s_int, okt_s, iv_t_list, iv_t_tuple, iv_t_bool, iv_t_str, iv_t_int, okt_t, iv_r_list, iv_r_tuple, iv_r_bool, iv_r_str, iv_r_int, tru_b, tru_i, tru_n, tru_t, Option.map_some, Option.map_none, List.map_cons, List.map_nil, List.length_cons, List.length_nil, List.set_cons_zero, List.set_cons_succ, List.cons_append, List.nil_append, List.replicate, Nat.reduceAdd, Nat.reduceSub, Nat.reduceLeDiff, true_and, and_true, decide_eq_true_eq, reduceIte, Bool.false_eq_true, Bool.not_true, Bool.not_false, decide_true, decide_false]
    refine (lcheck_ok get_new).mono ?_
    rintro _ m11 ⟨rfl, rfl⟩
    try simp -dsimp only [at0, at1, at2, at3, at4, at5, at6, wp_fn, s_nil, s_brk, s_cnt, s_expr, s_ret, s_retN, s_if, s_asn, s_par, s_asg, g_nm, g_nil, g_cons, g_tupT, g_subW, w_v0, w_vS, w_c, w_op, w_un, w_anil, w_acons, w_tup, w_lst, w_call, w_callU, w_isi, w_meth, w_tru, w_bool, w_notS, w_andS, w_orS, w_ifx, w_andV, w_orV, w_notV, w_chain, wp_ok, wp_bad, wp_some, wp_none, wp_liftif, wp_if, asB_b, wp_noex, add_ii, sub_ii, mul_ii, fdiv_ii, mod_ii, pow_ii, neg_i, cmp_ii, lt_ii, le_ii, gt_ii, ge_ii, le_cc, muls_ii, muls_si, ins_cs, iadd_ii, isub_ii, w_onone, w_osome, w_sl, sl_s, sl_t, s_aug, eq_ss, len_s, ix_s, add_ss, str_s, tuple_t, list_t, is_n, not_n, non_n, non_i, non_b, non_s, non_t, non_r, abs_i, max_ii, min_ii, int_i, int_b, gcd_ii, len_t, ix_t, eq_v, ne_v, eq_ii, eq_bb, eq_nn, eq_in, eq_ni, iv_n_list, iv_n_tuple, iv_n_bool, iv_n_str, iv_n_int, okt_n, iv_b_list, iv_b_tuple, iv_b_bool, iv_b_str, iv_b_int, okt_b, iv_i_list, iv_i_tuple, iv_i_bool, iv_i_str, iv_i_int, okt_i, iv_s_list, iv_s_tuple, iv_s_bool, iv_s_str, iv_s_int, okt_s, iv_t_list, iv_t_tuple, iv_t_bool, iv_t_str, iv_t_int, okt_t, iv_r_list, iv_r_tuple, iv_r_bool, iv_r_str, iv_r_int, tru_b, tru_i, tru_n, tru_t, Option.map_some, Option.map_none, List.map_cons, List.map_nil, List.length_cons, List.length_nil, List.set_cons_zero, List.set_cons_succ, List.cons_append, List.nil_append, List.replicate, Nat.reduceAdd, Nat.reduceSub, Nat.reduceLeDiff, true_and, and_true, decide_eq_true_eq, reduceIte, Bool.false_eq_true, Bool.not_true, Bool.not_false, decide_true, decide_false]
    rw [eix _ (get_old P)]
    try simp -dsimp only [at0, at1, at2, at3, at4, at5, at6, wp_fn, s_nil, s_brk, s_cnt, s_expr, s_ret, s_retN, s_if, s_asn, s_par, s_asg, g_nm, g_nil, g_cons, g_tupT, g_subW, w_v0, w_vS, w_c, w_op, w_un, w_anil, w_acons, w_tup, w_lst, w_call, w_callU, w_isi, w_meth, w_tru, w_bool, w_notS, w_andS, w_orS, w_ifx, w_andV, w_orV, w_notV, w_chain, wp_ok, wp_bad, wp_some, wp_none, wp_liftif, wp_if, asB_b, wp_noex, add_ii, sub_ii, mul_ii, fdiv_ii, mod_ii, pow_ii, neg_i, cmp_ii, lt_ii, le_ii, gt_ii, ge_ii, le_cc, muls_ii, muls_si, ins_cs, iadd_ii, isub_ii, w_onone, w_osome, w_sl, sl_s, sl_t, s_aug, eq_ss, len_s, ix_s, add_ss, str_s, tuple_t, list_t, is_n, not_n, non_n, non_i, non_b, non_s, non_t, non_r, abs_i, max_ii, min_ii, int_i, int_b, gcd_ii, len_t, ix_t, eq_v, ne_v, eq_ii, eq_bb, eq_nn, eq_in, eq_ni, iv_n_list, iv_n_tuple, iv_n_bool, iv_n_str, iv_n_int, okt_n, iv_b_list, iv_b_tuple, iv_b_bool, iv_b_str, iv_b_int, okt_b, iv_i_list, iv_i_tuple, iv_i_bool, iv_i_str, iv_i_int, okt_i, iv_s_list, iv_s_tuple, iv_s_bool, iv_s_str, iv_s_int, okt_s, iv_t_list, iv_t_tuple, iv_t_bool, iv_t_str, iv_t_int, okt_t, iv_r_list, iv_r_tuple, iv_r_bool, iv_r_str, iv_r_int, tru_b, tru_i, tru_n, tru_t, Option.map_some, Option.map_none, List.map_cons, List.map_nil, List.length_cons, List.length_nil, List.set_cons_zero, List.set_cons_succ, List.cons_append, List.nil_append, List.replicate, Nat.reduceAdd, Nat.reduceSub, Nat.reduceLeDiff, true_and, and_true, decide_eq_true_eq, reduceIte, Bool.false_eq_true, Bool.not_true, Bool.not_false, decide_true, decide_false]
    refine (lcheck_ok (get_old K)).mono ?_
    rintro _ m11 ⟨rfl, rfl⟩
    try simp -dsimp only [at0, at1, at2, at3, at4, at5, at6, wp_fn, s_nil, s_brk, s_cnt, s_expr, s_ret, s_retN, s_if, s_asn, s_par, s_asg, g_nm, g_nil, g_cons, g_tupT, g_subW, w_v0, w_vS, w_c, w_op, w_un, w_anil, w_acons, w_tup, w_lst, w_call, w_callU, w_isi, w_meth, w_tru, w_bool, w_notS, w_andS, w_orS, w_ifx, w_andV, w_orV, w_notV, w_chain, wp_ok, wp_bad, wp_some, wp_none, wp_liftif, wp_if, asB_b, wp_noex, add_ii, sub_ii, mul_ii, fdiv_ii, mod_ii, pow_ii, neg_i, cmp_ii, lt_ii, le_ii, gt_ii, ge_ii, le_cc, muls_ii, muls_si, ins_cs, iadd_ii, isub_ii, w_onone, w_osome, w_sl, sl_s, sl_t, s_aug, eq_ss, len_s, ix_s, add_ss, str_s, tuple_t, list_t, is_n, not_n, non_n, non_i, non_b, non_s, non_t, non_r, abs_i, max_ii, min_ii, int_i, int_b, gcd_ii, len_t, ix_t, eq_v, ne_v, eq_ii, eq_bb, eq_nn, eq_in, eq_ni, iv_n_list, iv_n_tuple, iv_n_bool, iv_n_str, iv_n_int, okt_n, iv_b_list, iv_b_tuple, iv_b_bool, iv_b_str, iv_b_int, okt_b, iv_i_list, iv_i_tuple, iv_i_bool, iv_i_str, iv_i_int, okt_i, iv_s_list, iv_s_tuple, iv_s_bool, iv_s_str, iv_s_int, okt_s, iv_t_list, iv_t_tuple, iv_t_bool, iv_t_str, iv_t_int, okt_t, iv_r_list, iv_r_tuple, iv_r_bool, iv_r_str, iv_r_int, tru_b, tru_i, tru_n, tru_t, Option.map_some, Option.map_none, List.map_cons, List.map_nil, List.length_cons, List.length_nil, List.set_cons_zero, List.set_cons_succ, List.cons_append, List.nil_append, List.replicate, Nat.reduceAdd, Nat.reduceSub, Nat.reduceLeDiff, true_and, and_true, decide_eq_true_eq, reduceIte, Bool.false_eq_true, Bool.not_true, Bool.not_false, decide_true, decide_false]
    by_cases hc : chk 9 (b.set i v) = chk 9 b
    · rw [decide_eq_true hc]
      try simp -dsimp only [at0, at1, at2, at3, at4, at5, at6, wp_fn, s_nil, s_brk, s_cnt, s_expr, s_ret, s_retN, s_if, s_asn, s_par, s_asg, g_nm, g_nil, g_cons, g_tupT, g_subW, w_v0, w_vS, w_c, w_op, w_un, w_anil, w_acons, w_tup, w_lst, w_call, w_callU, w_isi, w_meth, w_tru, w_bool, w_notS, w_andS, w_orS, w_ifx, w_andV, w_orV, w_notV, w_chain, wp_ok, wp_bad, wp_some, wp_none, wp_liftif, wp_if, asB_b, wp_noex, add_ii, sub_ii, mul_ii, fdiv_ii, mod_ii, pow_ii, neg_i, cmp_ii, lt_ii, le_ii, gt_ii, ge_ii, le_cc, muls_ii, muls_si, ins_cs, iadd_ii, isub_ii, w_onone, w_osome, w_sl, sl_s, sl_t, s_aug, eq_ss, len_s, ix_s, add_ss, str_s, tuple_t, list_t, is_n, not_n, non_n, non_i, non_b, non_s, non_t, non_r, abs_i, max_ii, min_ii, int_i, int_b, gcd_ii, len_t, ix_t, eq_v, ne_v, eq_ii, eq_bb, eq_nn, eq_in, eq_ni, iv_n_list, iv_n_tuple, iv_n_bool, iv_n_str, iv_n_int, okt_n, iv_b_list, iv_b_tuple, iv_b_bool, iv_b_str, iv_b_int, okt_b, iv_i_list, iv_i_tuple, iv_i_bool, iv_i_str, iv_i_int, okt_i, iv_s_list, iv_s_tuple, iv_s_bool, iv_s_str, iv_s_int, okt_s, iv_t_list, iv_t_tuple, iv_t_bool, iv_t_str, iv_t_int, okt_t, iv_r_list, iv_r_tuple, iv_r_bool, iv_r_str, iv_r_int, tru_b, tru_i, tru_n, tru_t, Option.map_some, Option.map_none, List.map_cons, List.map_nil, List.length_cons, List.length_nil, List.set_cons_zero, List.set_cons_succ, List.cons_append, List.nil_append, List.replicate, Nat.reduceAdd, Nat.reduceSub, Nat.reduceLeDiff, true_and, and_true, decide_eq_true_eq, reduceIte, Bool.false_eq_true, Bool.not_true, Bool.not_false, decide_true, decide_false]
    · rw [decide_eq_false hc]
      try simp -dsimp only [at0, at1, at2, at3, at4, at5, at6, wp_fn, s_nil, s_brk, s_cnt, s_expr, s_ret, s_retN, s_if, s_asn, s_par, s_asg, g_nm, g_nil, g_cons, g_tupT, g_subW, w_v0, w_vS, w_c, w_op, w_un, w_anil, w_acons, w_tup, w_lst, w_call, w_callU, w_isi, w_meth, w_tru, w_bool, w_notS, w_andS, w_orS, w_ifx, w_andV, w_orV, w_notV, w_chain, wp_ok, wp_bad, wp_some, wp_none, wp_liftif, wp_if, asB_b, wp_noex, add_ii, sub_ii, mul_ii, fdiv_ii, mod_ii, pow_ii, neg_i, cmp_ii, lt_ii, le_ii, gt_ii, ge_ii, le_cc, muls_ii, muls_si, ins_cs, iadd_ii, isub_ii, w_onone, w_osome, w_sl, sl_s, sl_t, s_aug, eq_ss, len_s, ix_s, add_ss, str_s, tuple_t, list_t, is_n, not_n, non_n, non_i, non_b, non_s, non_t, non_r, abs_i, max_ii, min_ii, int_i, int_b, gcd_ii, len_t, ix_t, eq_v, ne_v, eq_ii, eq_bb, eq_nn, eq_in, eq_ni, iv_n_list, iv_n_tuple, iv_n_bool, iv_n_str, iv_n_int, okt_n, iv_b_list, iv_b_tuple, iv_b_bool, iv_b_str, iv_b_int, okt_b, iv_i_list, iv_i_tuple, iv_i_bool, iv_i_str, iv_i_int, okt_i, iv_s_list, iv_s_tuple, iv_s_bool, iv_s_str, iv_s_int, okt_s, iv_t_list, iv_t_tuple, iv_t_bool, iv_t_str, iv_t_int, okt_t, iv_r_list, iv_r_tuple, iv_r_bool, iv_r_str, iv_r_int, tru_b, tru_i, tru_n, tru_t, Option.map_some, Option.map_none, List.map_cons, List.map_nil, List.length_cons, List.length_nil, List.set_cons_zero, List.set_cons_succ, List.cons_append, List.nil_append, List.replicate, Nat.reduceAdd, Nat.reduceSub, Nat.reduceLeDiff, true_and, and_true, decide_eq_true_eq, reduceIte, Bool.false_eq_true, Bool.not_true, Bool.not_false, decide_true, decide_false]
      obtain ⟨rg1, rg2⟩ := rr_chg (b := b) (b' := b.set i v) (by rw [List.length_set]) hBy hc
      refine (readrec_ok (a := 0) (get_old N) (fun x hx => ?_) ?_ (by decide) rg2).mono ?_
      · rcases List.mem_append.mp hx with hx | hx
        · exact (nbF_sp (by omega)).by x hx
        · rcases List.mem_append.mp hx with hx | hx
          · rcases List.mem_or_eq_of_mem_set hx with hx | rfl
            · exact hBy.1 x hx
            · exact ⟨hv0, hv1⟩
          · exact (nbF_sp chk9.1).by x hx
      · have := recF_l (b := b)
        rw [List.length_append, List.length_append, List.length_set]
        omega
      · rintro _ m12 ⟨hn, _, _⟩
        cases hn rg1
        try simp -dsimp only [at0, at1, at2, at3, at4, at5, at6, wp_fn, s_nil, s_brk, s_cnt, s_expr, s_ret, s_retN, s_if, s_asn, s_par, s_asg, g_nm, g_nil, g_cons, g_tupT, g_subW, w_v0, w_vS, w_c, w_op, w_un, w_anil, w_acons, w_tup, w_lst, w_call, w_callU, w_isi, w_meth, w_tru, w_bool, w_notS, w_andS, w_orS, w_ifx, w_andV, w_orV, w_notV, w_chain, wp_ok, wp_bad, wp_some, wp_none, wp_liftif, wp_if, asB_b, wp_noex, add_ii, sub_ii, mul_ii, fdiv_ii, mod_ii, pow_ii, neg_i, cmp_ii, lt_ii, le_ii, gt_ii, ge_ii, le_cc, muls_ii, muls_si, ins_cs, iadd_ii, isub_ii, w_onone, w_osome, w_sl, sl_s, sl_t, s_aug, eq_ss, len_s, ix_s, add_ss, str_s, tuple_t, list_t, is_n, not_n, non_n, non_i, non_b, non_s, non_t, non_r, abs_i, max_ii, min_ii, int_i, int_b, gcd_ii, len_t, ix_t, eq_v, ne_v, eq_ii, eq_bb, eq_nn, eq_in, eq_ni, iv_n_list, iv_n_tuple, iv_n_bool, iv_n_str, iv_n_int, okt_n, iv_b_list, iv_b_tuple, iv_b_bool, iv_b_str, iv_b_int, okt_b, iv_i_list, iv_i_tuple, iv_i_bool, iv_i_str, iv_i_int, okt_i, iv_s_list, iv_s_tuple, iv_s_bool, iv_s_str, iv_s_int, okt_s, iv_t_list, iv_t_tuple, iv_t_bool, iv_t_str, iv_t_int, okt_t, iv_r_list, iv_r_tuple, iv_r_bool, iv_r_str, iv_r_int, tru_b, tru_i, tru_n, tru_t, Option.map_some, Option.map_none, List.map_cons, List.map_nil, List.length_cons, List.length_nil, List.set_cons_zero, List.set_cons_succ, List.cons_append, List.nil_append, List.replicate, Nat.reduceAdd, Nat.reduceSub, Nat.reduceLeDiff, true_and, and_true, decide_eq_true_eq, reduceIte, Bool.false_eq_true, Bool.not_true, Bool.not_false, decide_true, decide_false]
  · rw [if_neg hz]
    try simp -dsimp only [at0, at1, at2, at3, at4, at5, at6, wp_fn, s_nil, s_brk, s_cnt, s_expr, s_ret, s_retN, s_if, s_asn, s_par, s_asg, g_nm, g_nil, g_cons, g_tupT, g_subW, w_v0, w_vS, w_c, w_op, w_un, w_anil, w_acons, w_tup, w_lst, w_call, w_callU, w_isi, w_meth, w_tru, w_bool, w_notS, w_andS, w_orS, w_ifx, w_andV, w_orV, w_notV, w_chain, wp_ok, wp_bad, wp_some, wp_none, wp_liftif, wp_if, asB_b, wp_noex, add_ii, sub_ii, mul_ii, fdiv_ii, mod_ii, pow_ii, neg_i, cmp_ii, lt_ii, le_ii, gt_ii, ge_ii, le_cc, muls_ii, muls_si, ins_cs, iadd_ii, isub_ii, w_onone, w_osome, w_sl, sl_s, sl_t, s_aug, eq_ss, len_s, ix_s, add_ss, str_s, tuple_t, list_t, is_n, not_n, non_n, non_i, non_b, non_s, non_t, non_r, abs_i, max_ii, min_ii, int_i, int_b, gcd_ii, len_t, ix_t, eq_v, ne_v, eq_ii, eq_bb, eq_nn, eq_in, eq_ni, iv_n_list, iv_n_tuple, iv_n_bool, iv_n_str, iv_n_int, okt_n, iv_b_list, iv_b_tuple, iv_b_bool, iv_b_str, iv_b_int, okt_b, iv_i_list, iv_i_tuple, iv_i_bool, iv_i_str, iv_i_int, okt_i, iv_s_list, iv_s_tuple, iv_s_bool, iv_s_str, iv_s_int, okt_s, iv_t_list, iv_t_tuple, iv_t_bool, iv_t_str, iv_t_int, okt_t, iv_r_list, iv_r_tuple, iv_r_bool, iv_r_str, iv_r_int, tru_b, tru_i, tru_n, tru_t, Option.map_some, Option.map_none, List.map_cons, List.map_nil, List.length_cons, List.length_nil, List.set_cons_zero, List.set_cons_succ, List.cons_append, List.nil_append, List.replicate, Nat.reduceAdd, Nat.reduceSub, Nat.reduceLeDiff, true_and, and_true, decide_eq_true_eq, reduceIte, Bool.false_eq_true, Bool.not_true, Bool.not_false, decide_true, decide_false]
theorem goal : Goal := fun ns _ => by
  obtain ⟨x, m', e, rfl⟩ := (law_true (ns := ns)).run
  exact ⟨m', e⟩
end Lw

open PySem PySem.W PyProof.Rows
set_option maxHeartbeats 0 in
theorem PySem.Challenge.cw_homingtrue_k45_integers_and_records_holds : PySem.Challenge.rw_homingtrue_k45_integers_and_records.Holds := by
  w_on; o_law; k_head; (case hw => w_witness2)
  k_fill
  refine L2.walk_of (l := PySem.Challenge.rw_homingtrue_k45_integers_and_records) (n := 63) (k := 3) (x := "script") (CX := fun _ => L2.CX0) (sp := fun w => SM.SpQ _ 1 Lw.f_law) rfl (by decide) rfl ⟨rfl, by decide, by decide⟩ (fun w h Y => PySem.W.kIn_of Y) ?F (fun _ _ a ns hl ho hS => let ⟨_, e⟩ := Lw.goal ns hl; SM.law_sp e ho hS) (fun _ _ _ _ _ h => h)
  case F =>
    intro w mg fa h KX G hmg
    refine' Lw.all_mk KX G hmg ?a0 ?l0 ?c0 ?k0 ?a1 ?l1 ?c1 ?k1 ?a2 ?l2 ?c2 ?k2 ?a3 ?l3 ?c3 ?k3 ?a4 ?l4 ?c4 ?k4 ?a5 ?l5 ?c5 ?k5 ?a6 ?l6 ?c6 ?k6 ?a7 ?l7 ?c7 ?k7 ?a8 ?l8 ?c8 ?k8 ?a9 ?l9 ?c9 ?k9 ?a10 ?l10 ?c10 ?k10 ?a11 ?l11 ?c11 ?k11 ?a12 ?l12 ?c12 ?k12 ?a13 ?l13 ?c13 ?k13 ?z_len ?z_range ?z_int ?z_list ?z_BASE ?z_FIRST_SUM ?z_FACTOR ?z_MODULUS
    (case a0 => k_is); (case l0 => k_is); (case c0 => k_is); (case k0 => k_is); (case a1 => k_is); (case l1 => k_is); (case c1 => k_is); (case k1 => k_is); (case a2 => k_is); (case l2 => k_is); (case c2 => k_is); (case k2 => k_is); (case a3 => k_is); (case l3 => k_is); (case c3 => k_is); (case k3 => k_is); (case a4 => k_is); (case l4 => k_is); (case c4 => k_is); (case k4 => k_is); (case a5 => k_is); (case l5 => k_is); (case c5 => k_is); (case k5 => k_is); (case a6 => k_is); (case l6 => k_is); (case c6 => k_is); (case k6 => k_is); (case a7 => k_is); (case l7 => k_is); (case c7 => k_is); (case k7 => k_is); (case a8 => k_is); (case l8 => k_is); (case c8 => k_is); (case k8 => k_is); (case a9 => k_is); (case l9 => k_is); (case c9 => k_is); (case k9 => k_is); (case a10 => k_is); (case l10 => k_is); (case c10 => k_is); (case k10 => k_is); (case a11 => k_is); (case l11 => k_is); (case c11 => k_is); (case k11 => k_is); (case a12 => k_is); (case l12 => k_is); (case c12 => k_is); (case k12 => k_is); (case a13 => k_is); (case l13 => k_is); (case c13 => k_is); (case k13 => k_is); (case z_len => k_is); (case z_range => k_is); (case z_int => k_is); (case z_list => k_is); (case z_BASE => k_is); (case z_FIRST_SUM => k_is); (case z_FACTOR => k_is); (case z_MODULUS => k_is)

